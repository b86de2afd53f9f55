"""Point 28, and 3 (i): answer."""

import re
import unittest

from reckoning import NUMBER, Prickly, asked, changed_texts, kind_as_written, kind_by_form, odd_things
from reckoning import parting_as_written, parting_by_form, partings_of_great, refusal, small_kinds, small_partings

from partrests.answers import answer
from partrests.claims import first_not
from partrests.cores import apart
from partrests.counting import counts
from partrests.errors import NoLine, NoList, NoPlace, NoTurn, PartError
from partrests.kinds import listed
from partrests.pairing import merged, paired, split
from partrests.partings import turned
from partrests.places import at, place_of
from partrests.ranks import mark, rank
from partrests.spreads import first_uneven, shares
from partrests.turning import share, turned_on

SHAPES = {
    "count": "KIND N", "list": "KIND N", "rank": "P", "mark": "P", "shares": "W N T", "uneven": "W T A MOST",
    "claim": "KIND M A Q MOST", "core": "T P", "turn": "T P", "share": "T P", "place": "KIND P", "at": "KIND N K",
    "merge": "M P", "split": "M P", "pair": "P", "turned": "P", "draw": "P",
}

BOUNDS = {
    "count": {"N": (0, 600)}, "list": {"N": (0, 30)}, "rank": {}, "mark": {}, "shares": {"N": (0, 100), "T": (2, 60)},
    "uneven": {"T": (2, 60), "MOST": (0, 100)}, "claim": {"M": (1, 600), "Q": (2, 10 ** 6), "MOST": (0, 600)},
    "core": {"T": (1, 12)}, "turn": {}, "share": {}, "place": {}, "at": {"N": (0, 150)}, "merge": {"M": (2, 60)},
    "split": {"M": (2, 60)}, "pair": {}, "turned": {}, "draw": {},
}


def several(partings):
    return " ".join(parting_as_written(parting) for parting in partings)


def drawing(parting):
    text = ""
    for step, part in enumerate(parting):
        text += "\n" * (step > 0) + part * "#"
    return text


def or_word(told, word):
    return word if told is None else str(told)


TELLS = {
    "count": lambda of: str(counts(of["KIND"], of["N"])[-1]),
    "list": lambda of: several(listed(of["KIND"], of["N"])) or "none",
    "rank": lambda of: str(rank(of["P"])),
    "mark": lambda of: str(mark(of["P"])),
    "shares": lambda of: " ".join(str(many) for many in shares(of["W"], of["N"], of["T"])),
    "uneven": lambda of: or_word(first_uneven(of["W"], of["T"], of["A"], of["MOST"]), "even"),
    "claim": lambda of: or_word(first_not(counts(of["KIND"], of["MOST"]), (of["M"], of["A"], of["Q"])), "all"),
    "core": lambda of: several((apart(of["P"], of["T"])[0],) + apart(of["P"], of["T"])[1]),
    "turn": lambda of: parting_as_written(turned_on(of["T"], of["P"])),
    "share": lambda of: str(share(of["T"], of["P"])),
    "place": lambda of: str(place_of(of["KIND"], of["P"])),
    "at": lambda of: parting_as_written(at(of["KIND"], of["N"], of["K"])),
    "merge": lambda of: parting_as_written(merged(of["P"], of["M"])),
    "split": lambda of: parting_as_written(split(of["P"], of["M"])),
    "pair": lambda of: "none" if paired(of["P"]) is None else parting_as_written(paired(of["P"])),
    "turned": lambda of: parting_as_written(turned(of["P"])),
    "draw": lambda of: drawing(of["P"]),
}


def pattern_of(word):
    """The form of all lines of a word, as far as signs tell it."""
    forms = {"KIND": "(?P<KIND>[^ ]+(?: [^ ]+){0,2})", "P": "(?P<P>[^ ]+)", "W": "(?P<W>rank|mark)"}
    names = SHAPES[word].split(" ")
    return " ".join([word] + [forms.get(name, f"(?P<{name}>{NUMBER})") for name in names])


def things_of(line):
    """The word of a line and all that it names by name; None where it isn't of any form."""
    for word in SHAPES:
        found = re.fullmatch(pattern_of(word), line)
        if found:
            told = {name: int(text) for name, text in found.groupdict().items() if name not in ("KIND", "P", "W")}
            readers = {"KIND": kind_by_form, "P": parting_by_form, "W": str}
            told.update({name: readers[name](text) for name, text in found.groupdict().items() if name in readers})
            return None if None in told.values() else (word, told)
    return None


def is_within_bounds(word, of):
    """Whether the functions named are told of all these things."""
    fits = [least <= of[name] <= most for name, (least, most) in BOUNDS[word].items()]
    if "A" in of:
        fits.append(of["A"] < (of["M"] if word == "claim" else of["T"]))
    if "P" in of:
        fits.append(sum(of["P"]) <= (150 if word == "place" else 300))
    if word in ("turn", "share"):
        fits.append(of["T"] in (5, 7, 11))
    if word in ("place", "at"):
        fits.append(of["KIND"] != ("own",))
    return all(fits)


def due(line):
    """The text or the class of the refusal that is due to a line."""
    found = things_of(line)
    if found is None or not is_within_bounds(*found):
        return NoLine
    try:
        return TELLS[found[0]](found[1])
    except PartError as error:
        return type(error)


LINES = (
    "count all 5", "count own 0", "count most 2 10", "count box 3 4 7", "count rests 5 1,4 20", "list off 2 6",
    "list all 0", "list box 1 1 5", "list rests 2 0 4", "rank 4+3+1", "rank -", "mark 2+1+1", "mark 5",
    "shares rank 9 5", "shares mark 0 2", "uneven rank 11 6 20", "uneven mark 5 4 10", "claim all 5 4 5 20",
    "claim times 2 5 3 5 12", "claim rests 5 1,4 1 0 2 9", "core 3 4+3+1", "core 1 -", "core 12 2", "turn 5 5+3+1",
    "turn 7 4+1", "turn 11 6", "turn 5 5", "share 5 5+3+1", "share 11 3+2+1", "share 7 6", "place all 4+3+1",
    "place off 1 2+2", "place box 5 5 3+1", "at all 8 13", "at few 2 9 4", "at rests 3 1,2 6 9", "merge 2 3+1+1",
    "merge 2 2+1", "split 3 6+2+2", "split 2 1+1", "pair 5+4+2", "pair 2", "pair -", "pair 1+1", "turned 4+3+1",
    "turned -", "draw 3+1", "draw -",
)


class Answered(unittest.TestCase):
    def looked_at(self, line):
        """What is answered; looked at on the way is whether it is due."""
        told = due(line)
        if isinstance(told, str):
            self.assertEqual(asked(answer, line), told, line)
        else:
            self.assertIs(refusal(answer, line), told, line)
        return told

    def test_by_hand(self):
        for line, told in (
                ("count all 100", "190569292"), ("count all 0", "1"), ("count own 2", "0"),
                ("list all 4", "1+1+1+1 2+1+1 2+2 3+1 4"), ("list all 0", "-"), ("list own 2", "none"),
                ("list rests 5 1,4 4", "1+1+1+1 4"), ("rank 1+1+1", "-2"), ("rank -", "0"), ("mark 1", "-1"),
                ("mark 4+3+1", "1"), ("shares mark 9 5", "6 6 6 6 6"), ("shares rank 1 3", "1 0 0"),
                ("uneven mark 11 6 100", "even"), ("uneven rank 11 6 100", "6"), ("claim all 5 4 5 600", "all"),
                ("claim all 5 3 5 600", "3"), ("claim all 600 599 2 598", "all"), ("core 3 4+3+1", "2 2 - -"),
                ("core 1 2+1", "- 2+1"), ("turn 5 4", "2+2"), ("turn 5 3+1", "4"), ("share 5 3+1", "4"),
                ("place all 4", "4"), ("at all 4 0", "1+1+1+1"), ("at all 0 0", "-"), ("merge 2 1+1+1", "2+1"),
                ("split 2 2+1", "1+1+1"), ("merge 5 -", "-"), ("pair 3", "2+1"), ("pair 2", "none"), ("pair -", "none"),
                ("turned 3+1", "2+1+1"), ("turned -", "-"), ("draw 3+1", "###\n#"), ("draw -", "")):
            self.assertEqual(asked(answer, line), told, line)
            self.assertEqual(due(line), told, line)

    def test_refused_by_hand(self):
        for line, error in (
                ("turn 5 5", NoTurn), ("share 7 4", NoTurn), ("turn 11 -", NoTurn), ("merge 2 2", NoList),
                ("split 2 1+1", NoList), ("pair 1+1", NoList), ("place off 1 1+1", NoPlace), ("at all 4 5", NoPlace),
                ("at rests 2 0 5 0", NoPlace), ("at most 1 150 999999", NoPlace), ("turn 6 5", NoLine),
                ("merge 61 61", NoLine), ("pair 151+150", NoLine), ("pair 151+151", NoLine), ("turn 5 301", NoLine),
                ("share 5 151+153", NoLine), ("place own 1", NoLine), ("at own 1 0", NoLine), ("at own 1 5", NoLine),
                ("place all 151", NoLine), ("place off 1 76+76", NoLine), ("at all 151 0", NoLine),
                ("at all 5 1000000", NoLine), ("at all 5 -1", NoLine), ("split 1 1+1", NoLine), ("merge 1 1", NoLine)):
            self.assertIs(refusal(answer, line), error, line)
            self.assertIs(due(line), error, line)

    def test_lines_of_every_form(self):
        told = [self.looked_at(line) for line in LINES]
        self.assertEqual({line.split(" ")[0] for line in LINES}, set(SHAPES))
        self.assertNotIn(NoLine, told)

    def test_partings_of_every_form(self):
        for word, shape in SHAPES.items():
            for parting in small_partings(8) + partings_of_great(150) + partings_of_great(299):
                text = parting_as_written(parting)
                if shape == "P":
                    self.looked_at(f"{word} {text}")
                elif shape in ("T P", "M P"):
                    for number in (1, 2, 3, 5, 7, 11, 12, 60):
                        self.looked_at(f"{word} {number} {text}")
                elif shape == "KIND P":
                    for kind in ("all", "few 3", "off 1", "times 2", "box 200 20", "rests 2 1"):
                        self.looked_at(f"{word} {kind} {text}")

    def test_kinds_of_every_form(self):
        for kind in small_kinds():
            text = kind_as_written(kind)
            for line in (f"count {text} 11", f"list {text} 7", f"claim {text} 3 1 2 40", f"place {text} 4+3+3+1",
                         f"place {text} -", f"at {text} 9 2", f"at {text} 0 0"):
                self.looked_at(line)

    def test_shares_and_uneven(self):
        for which in ("rank", "mark"):
            for n in (0, 1, 2, 9, 24, 99, 100):
                for t in (2, 3, 5, 11, 59, 60):
                    self.looked_at(f"shares {which} {n} {t}")
            for t in (2, 5, 7, 11, 60):
                for a in (0, 1, t // 2, t - 1):
                    for most in (0, 1, 20, 100):
                        self.looked_at(f"uneven {which} {t} {a} {most}")

    def test_each_bound_and_one_beyond(self):
        for form, bounds in (
                ("count all {}", (0, 600)), ("count own {}", (0, 600)), ("count rests 60 0,59 {}", (0, 600)),
                ("list few 2 {}", (0, 30)), ("list all {}", (0, 30)), ("shares rank {} 5", (0, 100)),
                ("shares mark {} 5", (0, 100)), ("shares rank 20 {}", (2, 60)), ("uneven rank {} 1 60", (2, 60)),
                ("uneven mark 60 {} 100", (0, 59)), ("uneven mark 5 {} 100", (0, 4)), ("uneven rank 2 {} 100", (0, 1)),
                ("uneven mark 5 4 {}", (0, 100)), ("claim all {} 0 2 600", (1, 600)),
                ("claim all 600 {} 2 600", (0, 599)), ("claim off 2 7 {} 2 600", (0, 6)),
                ("claim all 1 {} 2 9", (0, 0)), ("claim all 5 4 {} 600", (2, 999999)),
                ("claim all 5 4 5 {}", (0, 600)), ("core {} 5+4+1", (1, 12)), ("merge {} 61+1", (2, 60)),
                ("split {} 61+1", (2, 60)), ("at all {} 0", (0, 150)), ("at few 2 {} 0", (0, 150)),
                ("at all 150 {}", (0, 999999)), ("rank {}", (1, 300)), ("mark {}", (1, 300)), ("pair {}", (1, 300)),
                ("turned {}", (1, 300)), ("draw {}", (1, 300)), ("core 12 {}", (1, 300)), ("turn 5 {}", (1, 300)),
                ("share 7 {}", (1, 300)), ("merge 60 {}", (1, 300)), ("split 2 {}", (1, 300)),
                ("place all {}", (1, 150)), ("place few 600 {}", (1, 150)), ("count most {} 9", (1, 600)),
                ("list off {} 9", (1, 600)), ("place few {} 3", (1, 600)), ("at box {} 9 9 0", (1, 600)),
                ("at box 9 {} 9 0", (1, 600)), ("claim times {} 5 4 5 9", (2, 60)), ("count rests {} 0 9", (2, 60)),
                ("count rests 60 {} 9", (0, 59))):
            for number in (bounds[0], bounds[1]):
                self.assertIsNot(self.looked_at(form.format(number)), NoLine, (form, number))
            for number in (bounds[0] - 1, bounds[1] + 1, -1, 1000000, 10 ** 60):
                self.assertIs(self.looked_at(form.format(number)), NoLine, (form, number))

    def test_weights_at_their_bounds(self):
        for word, least in (("rank", 300), ("mark", 300), ("pair", 300), ("turned", 300), ("draw", 300),
                            ("core 5", 300), ("turn 5", 299), ("share 7", 299), ("turn 11", 292), ("merge 7", 300),
                            ("split 60", 300), ("place all", 150), ("place few 600", 150)):
            most = 150 if word.startswith("place") else 300
            for parting in partings_of_great(least):
                self.assertIsNot(self.looked_at(f"{word} {parting_as_written(parting)}"), NoLine)
            for parting in partings_of_great(most + 1) + partings_of_great(most + 4):
                self.assertIs(self.looked_at(f"{word} {parting_as_written(parting)}"), NoLine)

    def test_turned_by_5_7_and_11_alone(self):
        for word in ("turn", "share"):
            for t in range(14):
                for parting in ("4", "5", "6", "-", "9", "12", "17"):
                    told = self.looked_at(f"{word} {t} {parting}")
                    self.assertEqual(told is NoLine, t not in (5, 7, 11))

    def test_at_each_place(self):
        for kind in ("all", "off 1", "few 3", "box 4 4", "times 3", "rests 4 1,3"):
            for n in (0, 1, 2, 8):
                for k in range(25):
                    self.looked_at(f"at {kind} {n} {k}")

    def test_texts_of_what_is_beyond(self):
        for line in ("", " ", "\n", "count", "count ", "count all", "count 5", "count all 5 ", " count all 5",
                     "count  all 5", "count all  5", "count all 5\n", "\ncount all 5", "count all\n5", "count\nall 5",
                     "Count all 5", "COUNT all 5", "counts all 5", "count all 05", "count all +5", "count all -5",
                     "count all 5.0", "count all five", "count any 5", "count all own 5", "count all all 5",
                     "count most 5", "list", "list 5", "list all", "rank", "rank ", "rank  3", "rank 3 ", "rank 3 3",
                     "rank 1+3", "rank 0", "rank 3+0", "rank all", "mark", "mark -1", "mark --", "shares",
                     "shares rank 5", "shares own 9 5", "shares Rank 9 5", "shares rank 9 5 5", "shares 9 5",
                     "uneven rank 5 4", "uneven rank 5 4 9 9", "uneven 5 4 9", "claim all 5 4 5", "claim 5 4 5 9",
                     "claim all 5 4 5 9 9", "claim all 5 5 5 9", "claim all 5 4 1 9", "claim all 5 4 0 9",
                     "claim all 0 0 5 9", "core 5", "core 4+1", "core 5 4 1", "core 0 4", "core 13 4", "core 4+1 5",
                     "turn 4", "turn 5", "turn 5 4 4", "share 4", "share", "place all", "place 4", "place",
                     "place own -", "place all 4 4", "at all 4", "at 4 0", "at", "at all 4 0 0", "at own 4 0",
                     "merge 4", "merge 2", "merge 0 1", "split 2 2 2", "split", "pair", "pair 2 2", "turned",
                     "turned 1+2", "draw", "draw #", "draw 1\n", "none", "even", "all", "-", "weight 3",
                     "listed all 4", "partings 4", "turned_on 5 4", "answer rank 3", "help", "uneven mark 5 5 100"):
            self.assertIs(self.looked_at(line), NoLine, line)

    def test_signs_left_out_put_in_exchanged(self):
        for line in LINES:
            self.assertIsNot(due(line), NoLine)
            for other in changed_texts(line):
                self.looked_at(other)

    def test_words_left_out_put_in_exchanged(self):
        for line in LINES:
            words = line.split(" ")
            for place in range(len(words) + 1):
                for more in ("", "1", "-", "all", "rank", "5", "2+1", "own", "count"):
                    self.looked_at(" ".join(words[:place] + [more] + words[place:]))
                    if place < len(words):
                        self.looked_at(" ".join(words[:place] + [more] + words[place + 1:]))
                self.looked_at(" ".join(words[:place] + words[place + 1:]))
                self.looked_at(" ".join(words[:place] + words[place:place + 2][::-1] + words[place + 2:]))

    def test_2000_signs_and_one_more(self):
        for many in (2000, 2001):
            for begin, sign in (("rank 1", "+1"), ("rank ", "1"), ("rank 1", " "), ("count all ", "0"), ("draw ", "#"),
                                ("", "a"), ("", " "), ("", "\n"), ("count", " all"), ("turn 5 4", "+1")):
                line = (begin + sign * many)[:many]
                self.assertIs(self.looked_at(line), NoLine)

    def test_anything_else_is_refused(self):
        for thing in odd_things() + [Prickly(), (Prickly(),), ["rank 3"], ("rank 3",), ["rank", "3"], ("rank", (3,)),
                                     b"rank 3", {"rank 3": 1}, {"rank 3"}, bytearray(b"rank 3")]:
            self.assertIs(refusal(answer, thing), NoLine)

    def test_signs_that_only_look_like_others(self):
        for line in ("count all \u0661", "rank \u0663", "rank 3\u00a0", "rank\u00a03", "rank\t3", "rank 3\t",
                     "rank 3\r", "r\u00e1nk 3", "draw \uff13", "rank \u2212"):
            self.assertIs(refusal(answer, line), NoLine, line)


if __name__ == "__main__":
    unittest.main()
