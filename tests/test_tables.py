"""Point 8: by_number, by_square, corners."""

import math
import unittest

from reckoning import PARTINGS, asked, multiplied

from partrests.counting import counts
from partrests.tables import by_number, by_square, corners


def square_of(parting):
    """The greatest s so that at least s parts are s or more."""
    return max(s for s in range(len(parting) + 1) if len([part for part in parting if part >= s]) >= s)


def numbers_table(most):
    """For each n and k how many partings of n have k parts: either one is 1, or one is taken off each."""
    table = [[0] * (most + 1) for n in range(most + 1)]
    table[0][0] = 1
    for n in range(1, most + 1):
        for k in range(1, n + 1):
            table[n][k] = table[n - 1][k - 1] + (table[n - k][k] if n >= k else 0)
    return table


class ByNumber(unittest.TestCase):
    def test_against_all_partings_gone_through(self):
        for n in range(31):
            told = tuple(sum(len(parting) == many for parting in PARTINGS[n]) for many in range(n + 1))
            self.assertEqual(asked(by_number, n), told, n)

    def test_to_the_bound(self):
        table = numbers_table(200)
        for n in (0, 1, 2, 31, 59, 60, 61, 100, 150, 199, 200):
            self.assertEqual(asked(by_number, n), tuple(table[n][:n + 1]), n)

    def test_the_edges(self):
        self.assertEqual(asked(by_number, 0), (1,))
        self.assertEqual(asked(by_number, 1), (0, 1))
        self.assertEqual(asked(by_number, 5), (0, 1, 2, 2, 1, 1))
        told = asked(by_number, 200)
        self.assertEqual(len(told), 201)
        self.assertEqual((told[0], told[1], told[2], told[199], told[200]), (0, 1, 100, 1, 1))
        self.assertEqual(sum(told), 3972999029388)


class BySquare(unittest.TestCase):
    def test_against_all_partings_gone_through(self):
        for n in range(31):
            found = [square_of(parting) for parting in PARTINGS[n]]
            told = tuple(found.count(side) for side in range(max(found) + 1))
            self.assertEqual(asked(by_square, n), told, n)

    def test_to_the_bound(self):
        for n in (31, 35, 36, 37, 99, 100, 575, 576, 577, 599, 600):
            told = asked(by_square, n)
            self.assertEqual(len(told), math.isqrt(n) + 1)
            self.assertEqual(told[0], 0)
            for side in range(1, len(told)):
                beside = counts(("most", side), n)
                self.assertEqual(told[side], multiplied(beside, beside)[n - side * side], (n, side))

    def test_the_edges(self):
        self.assertEqual(asked(by_square, 0), (1,))
        self.assertEqual(asked(by_square, 1), (0, 1))
        self.assertEqual(asked(by_square, 3), (0, 3))
        self.assertEqual(asked(by_square, 4), (0, 4, 1))
        self.assertEqual(asked(by_square, 600)[1], 600)
        self.assertEqual(sum(asked(by_square, 600)), 458004788008144308553622)


class Corners(unittest.TestCase):
    def test_by_their_words(self):
        for most in list(range(80)) + [287, 288, 300, 301, 532, 533, 551, 552, 598, 599, 600]:
            found = {}
            for k in range(most + 2):
                for place in (k * (3 * k - 1) // 2, k * (3 * k + 1) // 2):
                    if place <= most:
                        found[place] = 1 if k % 2 == 0 else -1
            self.assertEqual(asked(corners, most), tuple(sorted(found.items())), most)

    def test_the_edges(self):
        self.assertEqual(asked(corners, 0), ((0, 1),))
        self.assertEqual(asked(corners, 1), ((0, 1), (1, -1)))
        self.assertEqual(asked(corners, 2), ((0, 1), (1, -1), (2, -1)))
        self.assertEqual(asked(corners, 4), ((0, 1), (1, -1), (2, -1)))
        self.assertEqual(asked(corners, 6), ((0, 1), (1, -1), (2, -1), (5, 1)))
        self.assertEqual(asked(corners, 7), ((0, 1), (1, -1), (2, -1), (5, 1), (7, 1)))
        self.assertEqual(asked(corners, 600)[-1], (590, 1))


if __name__ == "__main__":
    unittest.main()
