"""Points 15 and 16, and 3 (f): spread, shares, first_uneven."""

import collections
import unittest

from reckoning import PARTINGS, asked, mark_by_parts, rank_by_parts

from partrests.counting import counts
from partrests.spreads import first_uneven, shares, spread

MOST = 100
VALUES = {"rank": rank_by_parts, "mark": mark_by_parts}


def ranks_table(most):
    """For each n how many partings have which rank: greatest parts let in one behind another, by how many parts."""
    told = [collections.Counter() for n in range(most + 1)]
    told[0][0] = 1
    rows = [[0] * (most + 1) for many in range(most + 1)]
    rows[0][0] = 1
    for greatest in range(1, most + 1):
        for many in range(1, most + 1):
            for n in range(greatest, most + 1):
                grown = rows[many - 1][n - greatest]
                if grown:
                    rows[many][n] += grown
                    told[n][greatest - many] += grown
    return told


def few_parts(most):
    """For each v the counts of the partings of 0 to most with at most v parts: either fewer, or one off each of v."""
    rows = [[1] + [0] * most]
    for v in range(1, most + 1):
        row = list(rows[-1])
        for n in range(v, most + 1):
            row[n] += row[n - v]
        rows.append(row)
    return rows


def without_ones(least, greatest, most):
    """Counts of the partings of 0 to most with parts from least to greatest alone."""
    row = [1] + [0] * most
    for size in range(least, greatest + 1):
        row = [sum(row[n::-size]) for n in range(most + 1)]
    return row


def marks_table(most):
    """For each n how many partings have which mark: by how many 1s there are, and how many parts above that."""
    told = [collections.Counter() for n in range(most + 1)]
    told[0][0] = 1
    few = few_parts(most)
    for greatest in range(2, most + 1):
        row = without_ones(2, greatest, most)
        for n in range(greatest, most + 1):
            told[n][greatest] += row[n - greatest]
    for ones in range(1, most + 1):
        row = without_ones(2, ones, most)
        for above in range(most // (ones + 1) + 1):
            # Of so many parts above the ones each is ones + 1 and what at most so many parts tell.
            beginning = ones + above * (ones + 1)
            for n in range(beginning, most + 1):
                left = n - beginning
                told[n][above - ones] += sum(few[above][i] * row[left - i] for i in range(left + 1))
    return told


def rising_pairs(found):
    return tuple(sorted((value, many) for value, many in found.items() if many))


def shared_out(found, t):
    """How many of the values found leave 0, 1, .. by t, value by value."""
    told = [0] * t
    for value, many in found.items():
        while value < 0:
            value += t
        while value >= t:
            value -= t
        told[value] += many
    return tuple(told)


TABLES = {"rank": ranks_table(MOST), "mark": marks_table(MOST)}
EVERYTHING = without_ones(1, MOST, MOST)


def uneven_by_words(which, t, a, most):
    for n in range(most + 1):
        if n % t == a and len(set(shared_out(TABLES[which][n], t))) > 1:
            return n
    return None


class Spread(unittest.TestCase):
    def test_against_all_partings_gone_through(self):
        for which, value_of in VALUES.items():
            for n in range(31):
                found = collections.Counter(value_of(parting) for parting in PARTINGS[n])
                self.assertEqual(asked(spread, which, n), rising_pairs(found), (which, n))

    def test_against_another_way(self):
        for which, table in TABLES.items():
            for n in range(MOST + 1):
                self.assertEqual(asked(spread, which, n), rising_pairs(table[n]), (which, n))

    def test_all_together_are_the_counts(self):
        self.assertEqual(counts(("all",), MOST), tuple(EVERYTHING))
        for which in VALUES:
            for n in range(MOST + 1):
                self.assertEqual(sum(many for value, many in spread(which, n)), EVERYTHING[n], (which, n))

    def test_the_edges(self):
        self.assertEqual(asked(spread, "rank", 0), ((0, 1),))
        self.assertEqual(asked(spread, "mark", 0), ((0, 1),))
        self.assertEqual(asked(spread, "rank", 1), ((0, 1),))
        self.assertEqual(asked(spread, "mark", 1), ((-1, 1),))
        self.assertEqual(asked(spread, "rank", 2), ((-1, 1), (1, 1)))
        self.assertEqual(asked(spread, "mark", 2), ((-2, 1), (2, 1)))
        self.assertEqual(asked(spread, "rank", 4), ((-3, 1), (-1, 1), (0, 1), (1, 1), (3, 1)))
        self.assertEqual(asked(spread, "mark", 4), ((-4, 1), (-2, 1), (0, 1), (2, 1), (4, 1)))

    def test_the_ends_of_a_hundred(self):
        told = asked(spread, "rank", 100)
        self.assertEqual((told[0], told[-1]), ((-99, 1), (99, 1)))
        self.assertEqual((told[1], told[-2]), ((-97, 1), (97, 1)))
        told = asked(spread, "mark", 100)
        self.assertEqual((told[0], told[-1]), ((-100, 1), (100, 1)))
        self.assertEqual((told[1], told[-2]), ((-98, 1), (98, 1)))

    def test_values_that_none_has_are_not_told(self):
        for which in VALUES:
            for n in range(MOST + 1):
                told = spread(which, n)
                self.assertTrue(all(many > 0 for value, many in told))
                self.assertEqual(list(told), sorted(set(told)))


class Shares(unittest.TestCase):
    def test_against_all_partings_gone_through(self):
        for which, value_of in VALUES.items():
            for n in range(19):
                for t in (2, 3, 4, 5, 7, 11, 19, 60):
                    told = tuple(sum((value_of(parting) - rest) % t == 0 for parting in PARTINGS[n])
                                 for rest in range(t))
                    self.assertEqual(asked(shares, which, n, t), told, (which, n, t))

    def test_against_another_way(self):
        for which, table in TABLES.items():
            for n in (0, 1, 2, 3, 31, 49, 50, 54, 61, 97, 98, 99, 100):
                for t in range(2, 61):
                    self.assertEqual(asked(shares, which, n, t), shared_out(table[n], t), (which, n, t))

    def test_the_edges(self):
        for t in (2, 60):
            self.assertEqual(asked(shares, "rank", 0, t), (1,) + (0,) * (t - 1))
            self.assertEqual(asked(shares, "mark", 0, t), (1,) + (0,) * (t - 1))
            self.assertEqual(asked(shares, "rank", 1, t), (1,) + (0,) * (t - 1))
            self.assertEqual(asked(shares, "mark", 1, t), (0,) * (t - 1) + (1,))
        for which in VALUES:
            for t in (2, 60):
                told = asked(shares, which, 100, t)
                self.assertEqual(len(told), t)
                self.assertEqual(sum(told), 190569292)

    def test_even_shares(self):
        for which in VALUES:
            self.assertEqual(asked(shares, which, 4, 5), (1,) * 5)
            self.assertEqual(asked(shares, which, 5, 7), (1,) * 7)
            self.assertEqual(asked(shares, which, 99, 5), (counts(("all",), 99)[99] // 5,) * 5)
        self.assertEqual(asked(shares, "mark", 6, 11), (1,) * 11)
        self.assertEqual(asked(shares, "rank", 6, 11), (1, 2, 1, 1, 0, 1, 1, 0, 1, 1, 2))


class FirstUneven(unittest.TestCase):
    def test_against_the_shares(self):
        for which in VALUES:
            for t in range(2, 61):
                for a in range(t):
                    told = uneven_by_words(which, t, a, MOST)
                    self.assertEqual(first_uneven(which, t, a, MOST), told, (which, t, a))

    def test_most_bounds_it(self):
        for which in VALUES:
            for t in (2, 3, 5, 7, 11, 59, 60):
                for a in (0, 1, t // 2, t - 1):
                    for most in (0, 1, 2, 4, 5, 6, 11, 58, 59, 60, 99, 100):
                        told = uneven_by_words(which, t, a, most)
                        self.assertEqual(asked(first_uneven, which, t, a, most), told, (which, t, a, most))

    def test_the_cases_named(self):
        for which in VALUES:
            self.assertIsNone(asked(first_uneven, which, 5, 4, 100))
            self.assertIsNone(asked(first_uneven, which, 7, 5, 100))
        self.assertIsNone(asked(first_uneven, "mark", 11, 6, 100))
        self.assertEqual(asked(first_uneven, "rank", 11, 6, 100), 6)
        self.assertEqual(asked(first_uneven, "rank", 11, 6, 6), 6)
        self.assertIsNone(asked(first_uneven, "rank", 11, 6, 5))

    def test_the_edges(self):
        for which in VALUES:
            for t in (2, 5, 60):
                self.assertEqual(asked(first_uneven, which, t, 0, 0), 0)
                self.assertEqual(asked(first_uneven, which, t, 0, 100), 0)
                self.assertIsNone(asked(first_uneven, which, t, t - 1, 0))
            self.assertEqual(asked(first_uneven, which, 60, 59, 100), 59)
            self.assertIsNone(asked(first_uneven, which, 60, 59, 58))
            self.assertEqual(asked(first_uneven, which, 5, 1, 100), 1)

    def test_even_at_first_and_uneven_later(self):
        self.assertEqual(asked(shares, "mark", 8, 11), (2,) * 11)
        self.assertEqual(asked(first_uneven, "mark", 11, 8, 100), 19)
        self.assertEqual(asked(first_uneven, "mark", 11, 8, 19), 19)
        self.assertIsNone(asked(first_uneven, "mark", 11, 8, 18))


if __name__ == "__main__":
    unittest.main()
