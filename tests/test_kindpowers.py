"""Point 12: powers_of."""

import unittest

from reckoning import asked, great_kinds, product_by_words, small_kinds

from partrests.counting import counts
from partrests.kindpowers import powers_of
from partrests.products import powers_found, product

NUMBERS = (1, 2, 3, 60, 599, 600)


def edge_kinds():
    """Kinds of every word that have powers, their numbers at the edges."""
    told = [("all",), ("own",), ("off", 1), ("off", 2)]
    told += [(word, number) for word in ("most", "few") for number in NUMBERS]
    told += [("box", k, l) for k in NUMBERS for l in NUMBERS]
    told += [("times", m) for m in (2, 3, 59, 60)]
    told += [("rests", 2, (0,)), ("rests", 2, (1,)), ("rests", 2, (0, 1)), ("rests", 3, (0, 2)), ("rests", 5, (1, 4)),
             ("rests", 60, (0,)), ("rests", 60, (59,)), ("rests", 60, (0, 59)), ("rests", 60, tuple(range(60)))]
    return told


def has_powers(kind):
    return kind[0] != "off" or kind[1] <= 2


class PowersOf(unittest.TestCase):
    def test_their_product_is_the_counts(self):
        for kind in edge_kinds():
            told = asked(powers_of, kind, 600)
            self.assertEqual(len(told), 600)
            self.assertEqual(product_by_words(told), counts(kind, 600), kind)

    def test_all_are_whole_numbers(self):
        for kind in edge_kinds():
            self.assertEqual({type(power) for power in powers_of(kind, 600)}, {int}, kind)

    def test_of_small_numbers(self):
        for kind in small_kinds():
            for most in (2, 3, 4, 5, 7, 12, 31):
                told = asked(powers_of, kind, most)
                if has_powers(kind):
                    self.assertEqual(len(told), most)
                    self.assertEqual(product_by_words(told), counts(kind, most), (kind, most))
                else:
                    self.assertIsNone(told, (kind, most))

    def test_they_are_those_found(self):
        for kind in great_kinds()[::3] + [("off", 1), ("off", 2), ("own",), ("box", 3, 2), ("box", 60, 60)]:
            if has_powers(kind):
                self.assertEqual(powers_of(kind, 300), powers_found(counts(kind, 300)), kind)

    def test_handed_in_to_product_again(self):
        for kind in (("all",), ("own",), ("off", 1), ("off", 2), ("box", 60, 3), ("times", 60)):
            self.assertEqual(product(powers_of(kind, 600)), counts(kind, 600), kind)

    def test_most_nought_and_one(self):
        for kind in edge_kinds():
            self.assertEqual(asked(powers_of, kind, 0), (), kind)
            self.assertEqual(asked(powers_of, kind, 1), (counts(kind, 1)[1],), kind)

    def test_none_of_off_with_d_above_two(self):
        for d in (3, 4, 5, 60, 599, 600):
            for most in (0, 1, 2, 30, 600):
                self.assertIsNone(asked(powers_of, ("off", d), most), (d, most))

    def test_shorter_ones_begin_longer_ones(self):
        for kind in edge_kinds():
            told = powers_of(kind, 600)
            for most in (2, 59, 300, 599):
                self.assertEqual(powers_of(kind, most), told[:most], (kind, most))

    def test_by_hand(self):
        self.assertEqual(asked(powers_of, ("all",), 3), (1, 1, 1))
        self.assertEqual(asked(powers_of, ("most", 2), 4), (1, 1, 0, 0))
        self.assertEqual(asked(powers_of, ("few", 2), 4), (1, 1, 0, 0))
        self.assertEqual(asked(powers_of, ("box", 2, 2), 6), (1, 1, -1, -1, 0, 0))
        self.assertEqual(asked(powers_of, ("box", 3, 1), 6), (1, 0, 0, -1, 0, 0))
        self.assertEqual(asked(powers_of, ("box", 1, 3), 6), (1, 0, 0, -1, 0, 0))
        self.assertEqual(asked(powers_of, ("off", 1), 6), (1, 0, 1, 0, 1, 0))
        self.assertEqual(asked(powers_of, ("off", 2), 6), (1, 0, 0, 1, 0, 1))
        self.assertEqual(asked(powers_of, ("times", 3), 6), (1, 1, 0, 1, 1, 0))
        self.assertEqual(asked(powers_of, ("rests", 3, (0, 1)), 6), (1, 0, 1, 1, 0, 1))
        self.assertEqual(asked(powers_of, ("own",), 8), (1, -1, 1, 0, 1, -1, 1, 0))


if __name__ == "__main__":
    unittest.main()
