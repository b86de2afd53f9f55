"""Point 27, and 3 (i): show_parting, show_kind, drawn, read_parting, read_kind, read_drawn."""

import re
import unittest

from reckoning import GREAT_PARTINGS, Prickly, asked, changed_texts, falls, great_kinds, kind_as_written, kind_by_form
from reckoning import odd_things, parting_as_written, parting_by_form, partings_of_great, refusal, small_kinds
from reckoning import small_partings

from partrests.errors import NoText
from partrests.reading import read_drawn, read_kind, read_parting
from partrests.showing import drawn, show_kind, show_parting

READERS = (read_parting, read_kind, read_drawn)

WRITTEN = {
    (): ("-", ""),
    (1,): ("1", "#"),
    (4, 3, 1): ("4+3+1", "####\n###\n#"),
    (2, 2): ("2+2", "##\n##"),
    (10,): ("10", "##########"),
    (12, 1): ("12+1", "############\n#"),
}

GREAT = list(GREAT_PARTINGS) + [parting for n in (150, 299, 300) for parting in partings_of_great(n)]

# Of any weight: what the readers tell may weigh more than what is handed in elsewhere.
HEAVY = [(999999,), (999999, 999999, 1), (100000,) * 285, (2000,), (1999,), (1000, 999), (10,) + (1,) * 995,
         (1,) * 1000, (301,), (1,) * 301, (999999,) * 200 + (1,)]


def drawing_by_form(text):
    """The parting that a text draws, None where it draws none."""
    if text == "":
        return ()
    if len(text) > 2000 or not re.fullmatch(r"#+(?:\n#+)*", text):
        return None
    parts = tuple(len(row) for row in re.findall("#+", text))
    return parts if falls(parts) else None


FORMS = {read_parting: parting_by_form, read_kind: kind_by_form, read_drawn: drawing_by_form}


class Shown(unittest.TestCase):
    def test_by_hand(self):
        for parting, (text, drawing) in WRITTEN.items():
            self.assertEqual(asked(show_parting, parting), text)
            self.assertEqual(asked(drawn, parting), drawing)
        for kind, text in ((("all",), "all"), (("own",), "own"), (("most", 3), "most 3"), (("few", 600), "few 600"),
                           (("box", 2, 30), "box 2 30"), (("off", 1), "off 1"), (("times", 60), "times 60"),
                           (("rests", 5, (1, 4)), "rests 5 1,4"), (("rests", 2, (0,)), "rests 2 0"),
                           (("rests", 60, (0, 59)), "rests 60 0,59")):
            self.assertEqual(asked(show_kind, kind), text)
            self.assertEqual(asked(read_kind, text), kind)

    def test_partings(self):
        for parting in small_partings(14) + GREAT + HEAVY:
            self.assertEqual(asked(show_parting, parting), parting_as_written(parting))

    def test_kinds(self):
        for kind in small_kinds() + great_kinds():
            self.assertEqual(asked(show_kind, kind), kind_as_written(kind))

    def test_drawings(self):
        for parting in small_partings(14) + GREAT:
            rows = asked(drawn, parting).split("\n")
            self.assertEqual([len(row) for row in rows], list(parting) if parting else [0])
            self.assertLessEqual(set("".join(rows)), {"#"})


class ThereAndBack(unittest.TestCase):
    def test_partings(self):
        for parting in small_partings(16) + GREAT + HEAVY:
            text = show_parting(parting)
            if len(text) <= 2000:
                self.assertEqual(asked(read_parting, text), parting)

    def test_kinds(self):
        for kind in small_kinds() + great_kinds():
            self.assertEqual(asked(read_kind, show_kind(kind)), kind)

    def test_drawings(self):
        for parting in small_partings(16) + GREAT + [(1999,), (2000,), (1000, 999), (1,) * 1000, (44,) * 44]:
            self.assertLessEqual(len(drawn(parting)), 2000)
            self.assertEqual(asked(read_drawn, drawn(parting)), parting)

    def test_what_was_drawn_is_written_and_back(self):
        for text in ("#" * 2000, "#" * 1000 + "\n" + "#" * 999, "#" + "\n#" * 999):
            parting = asked(read_drawn, text)
            self.assertEqual(drawn(parting), text)
            self.assertEqual(read_parting(show_parting(parting)), parting)


class Read(unittest.TestCase):
    def looked_at(self, reader, text):
        due = FORMS[reader](text)
        if due is None:
            self.assertIs(refusal(reader, text), NoText, (reader, text))
        else:
            self.assertEqual(asked(reader, text), due, (reader, text))

    def test_numbers_of_one_to_six_figures(self):
        for text, parting in (("1", (1,)), ("9", (9,)), ("10", (10,)), ("99999", (99999,)), ("100000", (100000,)),
                              ("999999", (999999,)), ("999999+999999", (999999,) * 2), ("999999+1", (999999, 1))):
            self.assertEqual(asked(read_parting, text), parting)
        for text in ("1000000", "9999999", "1000000+1", "0", "00", "01", "000001", "0000001", "1+0", "1+01", "01+1",
                     "2+00", "5+", "+5", "5++4", "+", "++", "--", "-1", "1-", "-+1", "1+-", "1+-1", "1.0", "1_0", "1e2",
                     "0x1", "1,1", "1 + 1", "1+ 1", " 1", "1 ", "1\n", "\n1", "-\n", " -", "- ", "", " ", "\n", "#",
                     "all"):
            self.assertIs(refusal(read_parting, text), NoText, text)

    def test_rests_with_0_and_a_nought_ahead(self):
        self.assertEqual(asked(read_kind, "rests 2 0"), ("rests", 2, (0,)))
        self.assertEqual(asked(read_kind, "rests 10 0,9"), ("rests", 10, (0, 9)))
        for text in ("rests 2 00", "rests 02 0", "rests 2 01", "rests 2 0,01", "rests 10 0,09", "rests 2 ", "rests 2",
                     "rests  2 0", "rests 2  0", "rests 2 0,", "rests 2 ,0", "rests 5 1,,4", "rests 5 1, 4",
                     "rests 5 1 4", "rests 5 4,1", "rests 5 1,1", "rests 5 5", "rests 5 1,5", "rests 1 0", "rests 61 0",
                     "rests 0 0", "rests 5 -1", "rests 5 -", "rests 5,1", "rests", "rests ", "rests 1000000 0",
                     "rests 5 0000001"):
            self.assertIs(refusal(read_kind, text), NoText, text)

    def test_every_word_at_its_bounds_and_one_beyond(self):
        for number in (0, 1, 2, 3, 59, 60, 61, 599, 600, 601, 999999, 1000000):
            for word in ("most", "few", "off", "times"):
                self.looked_at(read_kind, f"{word} {number}")
            for other in (0, 1, 600, 601):
                self.looked_at(read_kind, f"box {number} {other}")
                self.looked_at(read_kind, f"box {other} {number}")
            self.looked_at(read_kind, f"rests {number} 0")
            self.looked_at(read_kind, f"rests {number} {max(number - 1, 0)}")
            self.looked_at(read_kind, f"rests {number} {number}")

    def test_other_words(self):
        for text in ("", " ", "any", "All", "ALL", "alll", "al", "all ", " all", "all\n", "\nall", "all 1", "own 1",
                     "own ", "own,", "most", "most ", "most  3", "most 3 ", " most 3", "most 3\n", "most\n3",
                     "most -3", "most +3", "most 03", "most 3 3", "most 3,3", "most,3", "box 3", "box 3 ", "box 3 3 3",
                     "box 3,3", "off 0", "off", "times 1", "times 61", "times", "few 601", "few x", "few ", "1", "-",
                     "rank", "('all',)"):
            self.assertIs(refusal(read_kind, text), NoText, text)

    def test_drawings_that_are_none(self):
        for text in ("\n", "\n\n", "#\n", "\n#", "#\n\n#", "#\n##", "##\n#\n##", "# ", " #", "##\n# ", "# #", "-", "+",
                     "##\n-", "x", "#x", "#\tx", "#\n#\n", " ", "  ", "1", "#,#", "##\r\n#"):
            self.assertIs(refusal(read_drawn, text), NoText, text)

    def test_signs_left_out_put_in_exchanged(self):
        partings = ["-", "1", "10", "4+3+1", "12+10+2", "100000+1", "2+2"]
        kinds = ["all", "own", "most 60", "few 1", "box 2 30", "off 599", "times 60", "rests 5 1,4", "rests 10 0,9"]
        drawings = ["", "#", "###", "###\n##", "##\n##\n#"]
        for reader, texts in ((read_parting, partings), (read_kind, kinds), (read_drawn, drawings)):
            for text in texts:
                self.assertIsNotNone(FORMS[reader](text))
                for other in changed_texts(text):
                    self.looked_at(reader, other)

    def test_texts_of_one_reader_at_the_others(self):
        for parting in small_partings(6):
            for text in (show_parting(parting), drawn(parting)):
                for reader in READERS:
                    self.looked_at(reader, text)
        for kind in great_kinds():
            for reader in READERS:
                self.looked_at(reader, show_kind(kind))

    def test_2000_signs_and_one_more(self):
        for text, parting in (("10" + "+1" * 999, (10,) + (1,) * 999), ("1" + "+1" * 999, (1,) * 1000),
                              ("999999+" * 285 + "99999", (999999,) * 285 + (99999,))):
            self.assertLessEqual(len(text), 2000)
            self.assertEqual(asked(read_parting, text), parting)
        for text in ("1" + "+1" * 1000, "999999+" * 285 + "999999", "11+1" + "+1" * 999):
            self.assertGreater(len(text), 2000)
            self.assertIs(refusal(read_parting, text), NoText)
        for text in ("#" * 2000, "##" + "\n#" * 999, "#" * 1000 + "\n" + "#" * 999):
            self.assertEqual(len(text), 2000)
            self.assertEqual(asked(read_drawn, text), tuple(len(row) for row in text.split("\n")))
        for text in ("#" * 2001, "#" + "\n#" * 1000, "#" * 1000 + "\n" + "#" * 1000):
            self.assertEqual(len(text), 2001)
            self.assertIs(refusal(read_drawn, text), NoText)
        for many in (2000, 2001):
            for sign in ("a", " ", "\n", "0", "1", "-", "+", "~", "#"):
                for reader in READERS:
                    self.looked_at(reader, sign * many)
            self.assertIs(refusal(read_kind, "all" + " " * (many - 3)), NoText)
            self.assertIs(refusal(read_kind, "most " + "0" * (many - 6) + "1"), NoText)

    def test_anything_else_is_refused(self):
        for reader in READERS:
            for thing in odd_things() + [Prickly(), (Prickly(),)]:
                if not isinstance(thing, str):
                    self.assertIs(refusal(reader, thing), NoText)
                else:
                    self.looked_at(reader, thing)
            for thing in (["all"], ("all",), [1], (1,), (), [], None, True, False, 0, 1, b"all", b"1", b"#", b"-", b""):
                self.assertIs(refusal(reader, thing), NoText)

    def test_signs_that_only_look_like_figures(self):
        for sign in ("\u0661", "\u00b2", "\uff11", "\u09e7"):
            for text in (sign, "1" + sign, f"1+{sign}", f"most {sign}", f"rests 5 {sign}"):
                for reader in READERS:
                    self.assertIs(refusal(reader, text), NoText)


if __name__ == "__main__":
    unittest.main()
