"""Point 7, and 3 (a): counts."""

import math
import unittest

from reckoning import PARTINGS, asked, great_kinds, is_of_kind, multiplied, small_kinds

from partrests.counting import counts
from partrests.kinds import listed
from partrests.products import by_steps, steps_of
from partrests.rows import undone
from partrests.tables import by_number, by_square, corners

MOST = 600


def counts_of_parts(sizes, most):
    """For each n how many partings of n have only such sizes, sizes let in one behind another."""
    told = [1] + [0] * most
    for size in sizes:
        told = [sum(told[n::-size]) for n in range(most + 1)]
    return told


def counts_below_often(sizes, m, most):
    """For each n how many partings of n have only such sizes, each at most m - 1 times."""
    told = [1] + [0] * most
    for size in sizes:
        told = [sum(told[n::-size][:m]) for n in range(most + 1)]
    return told


def counts_falling_by(d, most):
    """For each n how many partings of n fall by d, least parts let in from the greatest down."""
    rows = {}
    nothing = [0] * (most + 1)
    for least in range(most, 0, -1):
        above = rows.get(least + 1, nothing)
        behind = rows.get(least + d, nothing)
        row = list(above)
        row[least] += 1
        for n in range(least, most + 1):
            row[n] += behind[n - least]
        rows[least] = row
    return [1] + rows[1][1:] if most > 0 else [1]


def counts_in_box(k, l, most):
    """For each n how many partings of n have at most l parts to k, part by part, by how many there are."""
    rows = [[1] + [0] * most] + [[0] * (most + 1) for many in range(l)]
    for size in range(1, k + 1):
        for many in range(1, l + 1):
            for n in range(size, most + 1):
                rows[many][n] += rows[many - 1][n - size]
    return [sum(row[n] for row in rows) for n in range(most + 1)]


def counts_own(most):
    """For each n how many partings of n are the same turned: a square and, twice over, a parting to its side."""
    told = [0] * (most + 1)
    side = 0
    while side * side <= most:
        row = counts_of_parts(range(2, 2 * side + 1, 2), most)
        for n in range(side * side, most + 1):
            told[n] += row[n - side * side]
        side += 1
    return told


def reckoned(kind, most):
    """Counts of a kind, in another way than the program's; None of a box with two great sides."""
    word, given = kind[0], kind[1:]
    if word == "all":
        return counts_of_parts(range(1, most + 1), most)
    if word in ("most", "few"):
        return counts_of_parts(range(1, min(given[0], most) + 1), most)
    if word == "off":
        return counts_falling_by(given[0], most)
    if word == "times":
        return counts_below_often(range(1, most + 1), given[0], most)
    if word == "rests":
        return counts_of_parts([size for size in range(1, most + 1) if size % given[0] in given[1]], most)
    if word == "own":
        return counts_own(most)
    if given[0] * given[1] <= 3600:
        return counts_in_box(given[0], given[1], most)
    return None


class SmallCounts(unittest.TestCase):
    def test_against_all_partings_gone_through(self):
        for kind in small_kinds():
            told = [sum(is_of_kind(kind, parting) for parting in PARTINGS[n]) for n in range(31)]
            self.assertEqual(list(asked(counts, kind, 30)), told, kind)

    def test_against_the_lists_at_both_ends(self):
        for kind in small_kinds():
            told = counts(kind, 30)
            for n in (0, 1, 29, 30):
                self.assertEqual(told[n], len(listed(kind, n)), (kind, n))

    def test_most_nought_and_one(self):
        for kind in small_kinds() + great_kinds():
            self.assertEqual(asked(counts, kind, 0), (1,), kind)
            self.assertEqual(asked(counts, kind, 1), (1, int(is_of_kind(kind, (1,)))), kind)


class GreatCounts(unittest.TestCase):
    def test_against_another_way(self):
        for kind in great_kinds():
            told = reckoned(kind, MOST)
            if told is not None:
                self.assertEqual(list(asked(counts, kind, MOST)), told, kind)

    def test_shorter_counts_begin_longer_ones(self):
        for kind in great_kinds():
            told = counts(kind, MOST)
            self.assertEqual(len(told), MOST + 1)
            for most in (2, 59, 60, 61, 300, 599):
                self.assertEqual(counts(kind, most), told[:most + 1], (kind, most))

    def test_known_counts(self):
        told = asked(counts, ("all",), MOST)
        self.assertEqual(told[:11], (1, 1, 2, 3, 5, 7, 11, 15, 22, 30, 42))
        self.assertEqual(told[100], 190569292)
        self.assertEqual(told[200], 3972999029388)
        self.assertEqual(told[600], 458004788008144308553622)

    def test_boxes_either_way(self):
        for k, l in ((1, 600), (2, 600), (60, 600), (599, 600), (12, 20), (300, 301), (60, 599)):
            self.assertEqual(counts(("box", k, l), MOST), counts(("box", l, k), MOST), (k, l))

    def test_small_boxes_are_filled_evenly(self):
        for k, l in ((1, 1), (2, 60), (60, 2), (12, 20), (25, 24), (1, 600), (600, 1)):
            told = asked(counts, ("box", k, l), MOST)
            self.assertEqual(sum(told), math.comb(k + l, k))
            self.assertEqual(told[:k * l + 1], told[k * l::-1])
            self.assertEqual(told[k * l + 1:], (0,) * (MOST - k * l))

    def test_great_boxes_lack_just_the_greatest(self):
        everything = counts(("all",), MOST)
        self.assertEqual(counts(("box", 600, 600), MOST), everything)
        for box, lack in ((("box", 599, 600), 1), (("box", 600, 599), 1), (("box", 599, 599), 2)):
            self.assertEqual(asked(counts, box, MOST), everything[:-1] + (everything[-1] - lack,))
        for number in (1, 2, 60, 599):
            self.assertEqual(counts(("box", number, 600), MOST), counts(("most", number), MOST))
            self.assertEqual(counts(("box", 600, number), MOST), counts(("few", number), MOST))

    def test_boxes_by_the_greatest_part(self):
        # Of the partings in a box either no part is k, or one is, and it may be taken off.
        for k, l in ((60, 60), (300, 301), (59, 599)):
            without, taken = counts(("box", k - 1, l), MOST), counts(("box", k, l - 1), MOST)
            told = tuple(without[n] + (taken[n - k] if n >= k else 0) for n in range(MOST + 1))
            self.assertEqual(counts(("box", k, l), MOST), told)


class WaysAgree(unittest.TestCase):
    def test_kinds_that_are_led_to_one_another(self):
        for m in (2, 3, 5, 59, 60):
            self.assertEqual(counts(("times", m), MOST), counts(("rests", m, tuple(range(1, m))), MOST), m)
        for k in (1, 2, 60, 599, 600):
            self.assertEqual(counts(("few", k), MOST), counts(("most", k), MOST))
        self.assertEqual(counts(("off", 1), MOST), counts(("times", 2), MOST))
        self.assertEqual(counts(("off", 2), MOST), counts(("rests", 5, (1, 4)), MOST))
        self.assertEqual(counts(("most", 600), MOST), counts(("all",), MOST))
        self.assertEqual(counts(("rests", 60, tuple(range(60))), MOST), counts(("all",), MOST))

    def test_corners_undo_the_counts_of_all(self):
        row = [0] * (MOST + 1)
        for place, sign in corners(MOST):
            row[place] = sign
        self.assertEqual(undone(counts(("all",), MOST)), tuple(row))
        self.assertEqual(undone(tuple(row)), counts(("all",), MOST))

    def test_tables_are_the_counts_of_all(self):
        told = counts(("all",), MOST)
        for n in (0, 1, 2, 59, 60, 199, 200):
            self.assertEqual(sum(by_number(n)), told[n])
        for n in (0, 1, 2, 59, 60, 575, 576, 599, 600):
            self.assertEqual(sum(by_square(n)), told[n])

    def test_counts_by_number_are_those_of_few(self):
        for n in (0, 1, 7, 60, 200):
            table = by_number(n)
            for k in (1, 2, 59, 60, 199, 200):
                self.assertEqual(counts(("few", k), n)[n], sum(table[:k + 1]), (n, k))

    def test_counts_by_steps(self):
        for kind in (("rests", 5, (2, 3)), ("rests", 60, (0, 59)), ("rests", 60, (1, 7, 30)), ("rests", 2, (1,))):
            powers = tuple(int(size % kind[1] in kind[2]) for size in range(1, MOST + 1))
            self.assertEqual(by_steps(steps_of(powers)), counts(kind, MOST), kind)

    def test_odd_and_even_parts_make_all(self):
        odd, even = counts(("rests", 2, (1,)), 300), counts(("rests", 2, (0,)), 300)
        self.assertEqual(multiplied(odd, even), counts(("all",), 300))


if __name__ == "__main__":
    unittest.main()
