"""Point 6: is_kind, is_of, listed."""

import copy
import itertools
import unittest

from reckoning import GREAT_PARTINGS, PARTINGS, Prickly, asked, is_of_kind, nested, odd_things, small_kinds
from reckoning import small_partings

from partrests.kinds import is_kind, is_of, listed


class IsKind(unittest.TestCase):
    def test_kinds_of_every_word_are(self):
        for kind in small_kinds():
            self.assertIs(asked(is_kind, kind), True, kind)

    def test_each_bound_and_one_beyond(self):
        for number in (-600, -1, 0, 1, 2, 599, 600, 601, 10 ** 30):
            told = 1 <= number <= 600
            for word in ("most", "few", "off"):
                self.assertIs(asked(is_kind, (word, number)), told, (word, number))
            self.assertIs(asked(is_kind, ("box", number, 5)), told, number)
            self.assertIs(asked(is_kind, ("box", 5, number)), told, number)
        for number in (-2, 0, 1, 2, 3, 59, 60, 61, 600, 10 ** 30):
            self.assertIs(asked(is_kind, ("times", number)), 2 <= number <= 60, number)
            self.assertIs(asked(is_kind, ("rests", number, (0,))), 2 <= number <= 60, number)

    def test_rests_of_every_form(self):
        for m in (2, 3, 4):
            for many in range(5):
                for rests in itertools.product(range(-1, 6), repeat=many):
                    rising = all(one < another for one, another in zip(rests, rests[1:]))
                    told = many > 0 and rising and all(0 <= rest < m for rest in rests)
                    self.assertIs(asked(is_kind, ("rests", m, rests)), told, (m, rests))

    def test_rests_at_their_bounds(self):
        for m in (2, 30, 60):
            for rests in ((0,), (m - 1,), (0, m - 1), tuple(range(m))):
                self.assertIs(asked(is_kind, ("rests", m, rests)), True)
            for rests in ((), (m,), (-1,), (0, m), (-1, 0), (m - 1, 0), (0, 0), (1, 1), tuple(range(m + 1))):
                self.assertIs(asked(is_kind, ("rests", m, rests)), False)

    def test_rests_of_other_things(self):
        for rests in ([0], [], [0, 1], 0, 1, None, "0", "", b"\x00", {0}, {0: 1}, True, (True,), (False,), (0, True),
                      (None,), ("0",), ((0,),), ([0],), (0, None), (0, (1,)), range(2)):
            self.assertIs(is_kind(("rests", 5, rests)), False, rests)

    def test_other_things_for_numbers(self):
        for number in (None, True, False, "1", "", b"1", [1], (1,), (), {}, {1}, 1j, len, Prickly()):
            for kind in (("most", number), ("few", number), ("off", number), ("box", number, 1), ("box", 1, number),
                         ("times", number), ("rests", number, (0,))):
                self.assertIs(is_kind(kind), False)

    def test_too_few_and_too_many(self):
        words = {"all": (), "own": (), "most": (2,), "few": (2,), "off": (2,), "times": (2,), "box": (2, 2),
                 "rests": (2, (1,))}
        for word, given in words.items():
            whole = (word,) + given
            self.assertIs(asked(is_kind, whole), True, whole)
            for more in (2, (), (1,), None, word):
                self.assertIs(asked(is_kind, whole + (more,)), False)
            for many in range(len(whole)):
                self.assertIs(asked(is_kind, whole[:many]), False)
            self.assertIs(asked(is_kind, list(whole)), False)
            self.assertIs(asked(is_kind, given), False)
            self.assertIs(asked(is_kind, (whole,)), False)

    def test_other_words(self):
        for word in ("", "All", "ALL", "all ", " all", "any", "mos", "mostly", "time", "rest", "offs", b"all", ("all",),
                     ["all"], None, True, 0, 1, Prickly()):
            for given in ((), (2,), (2, 2), (2, (1,))):
                self.assertIs(is_kind((word,) + given), False)

    def test_anything_is_told_as_a_truth(self):
        for thing in odd_things() + [Prickly(), (Prickly(),), ("all", Prickly())]:
            self.assertIs(is_kind(thing), False)

    def test_thirty_deep(self):
        for inner in (("all",), "all", (), ("rests", 2, (1,))):
            self.assertIs(is_kind(nested(inner, lambda thing: (thing,), 30)), False)
            self.assertIs(is_kind(nested(inner, lambda thing: ("all", thing), 29)), False)
            self.assertIs(is_kind(nested(inner, lambda thing: ("rests", 2, thing), 29)), False)
            self.assertIs(is_kind(nested(inner, lambda thing: ("most", thing), 29)), False)

    def test_what_is_handed_in_stays(self):
        for thing in (["all"], ("rests", 5, [1, 4]), {"most": [3]}):
            kept = copy.deepcopy(thing)
            is_kind(thing)
            self.assertEqual(thing, kept)


class IsOf(unittest.TestCase):
    def test_against_the_words_of_each_kind(self):
        some = small_partings(13) + list(GREAT_PARTINGS)
        for kind in small_kinds():
            for parting in some:
                self.assertIs(is_of(kind, parting), is_of_kind(kind, parting), (kind, parting))

    def test_the_parting_of_nought_is_of_every_kind(self):
        for kind in small_kinds():
            self.assertIs(asked(is_of, kind, ()), True, kind)

    def test_great_partings_at_the_bounds(self):
        for kind, parting, told in (
            (("most", 299), (300,), False), (("most", 300), (300,), True), (("most", 600), (300,), True),
            (("few", 299), (1,) * 300, False), (("few", 300), (1,) * 300, True),
            (("box", 300, 1), (300,), True), (("box", 299, 1), (300,), False), (("box", 1, 299), (1,) * 300, False),
            (("off", 1), tuple(range(24, 0, -1)), True), (("off", 2), tuple(range(24, 0, -1)), False),
            (("off", 298), (299, 1), True), (("off", 299), (299, 1), False), (("off", 600), (300,), True),
            (("times", 60), (5,) * 60, False), (("times", 60), (5,) * 59, True), (("times", 2), (150, 150), False),
            (("rests", 60, (0,)), (240, 60), True), (("rests", 60, (59,)), (119, 59), True),
            (("rests", 60, (0, 59)), (119, 61), False), (("own",), (17,) * 17, True), (("own",), (18,) * 16, False),
        ):
            self.assertIs(asked(is_of, kind, parting), told, (kind, parting))


class Listed(unittest.TestCase):
    def test_against_all_partings_gone_through(self):
        for kind in small_kinds():
            for n in range(15):
                told = tuple(parting for parting in PARTINGS[n] if is_of_kind(kind, parting))
                self.assertEqual(asked(listed, kind, n), told, (kind, n))

    def test_the_edges(self):
        for kind in small_kinds():
            self.assertEqual(asked(listed, kind, 0), ((),))
            told = tuple(parting for parting in PARTINGS[30] if is_of_kind(kind, parting))
            self.assertEqual(listed(kind, 30), told, kind)

    def test_some_by_hand(self):
        self.assertEqual(asked(listed, ("off", 2), 6), ((4, 2), (5, 1), (6,)))
        self.assertEqual(asked(listed, ("rests", 5, (1, 4)), 6), ((1,) * 6, (4, 1, 1), (6,)))
        self.assertEqual(asked(listed, ("own",), 8), ((3, 3, 2), (4, 2, 1, 1)))
        self.assertEqual(asked(listed, ("box", 3, 2), 5), ((3, 2),))
        self.assertEqual(asked(listed, ("box", 2, 2), 5), ())
        self.assertEqual(asked(listed, ("times", 2), 5), ((3, 2), (4, 1), (5,)))


if __name__ == "__main__":
    unittest.main()
