"""Point 9, and 3 (b): times, undone."""

import itertools
import unittest

from reckoning import asked, great_kinds, multiplied, scattered

from partrests.counting import counts
from partrests.products import product
from partrests.rows import times, undone
from partrests.tables import by_number, by_square

GREAT = 10 ** 6


def great_rows():
    """Rows of 121 numbers, at their bounds either way and scattered between."""
    told = [(sign * GREAT,) * 121 for sign in (1, -1)]
    told.append(tuple((-1) ** n * GREAT for n in range(121)))
    told += [tuple(scattered(121, most, seed)) for most in (1, 9, GREAT) for seed in (5, 77)]
    told.append((0,) * 121)
    return told


def unit(many):
    """1 and noughts, so many in all."""
    return (1,) + (0,) * (many - 1)


class Times(unittest.TestCase):
    def test_all_short_rows(self):
        rows = [row for many in (1, 2, 3) for row in itertools.product((-2, 0, 1, 3), repeat=many)]
        for one in rows:
            for other in rows:
                self.assertEqual(asked(times, one, other), multiplied(one, other), (one, other))

    def test_great_rows(self):
        rows = great_rows()
        for one in rows:
            for other in rows[:4]:
                self.assertEqual(asked(times, one, other), multiplied(one, other))

    def test_as_long_as_the_shorter_one(self):
        row = tuple(scattered(121, GREAT, 3))
        for many in (1, 2, 60, 120, 121):
            self.assertEqual(asked(times, row, row[:many]), multiplied(row, row)[:many])
            self.assertEqual(asked(times, row[:many], row), multiplied(row, row)[:many])

    def test_one_number(self):
        self.assertEqual(asked(times, (GREAT,), (-GREAT,)), (-GREAT * GREAT,))
        self.assertEqual(asked(times, (0,), (7, 8, 9)), (0,))
        self.assertEqual(asked(times, (2, 5), (3,)), (6,))

    def test_each_place_by_its_words(self):
        self.assertEqual(asked(times, (1, 2, 3), (4, 5, 6)), (4, 13, 28))

    def test_told_rows_of_601_numbers(self):
        one, other = counts(("all",), 600), counts(("off", 2), 600)
        self.assertEqual(asked(times, one, other), multiplied(one, other))
        again = times(one, other)
        self.assertEqual(times(again, undone(other)), one)
        self.assertEqual(times(one, unit(601)), one)
        self.assertEqual(times(by_number(200), by_square(600)), multiplied(by_number(200), by_square(600)))


class Undone(unittest.TestCase):
    def test_all_short_rows(self):
        for many in range(5):
            for behind in itertools.product((-3, -1, 0, 2), repeat=many):
                row = (1,) + behind
                told = asked(undone, row)
                self.assertEqual(len(told), len(row))
                self.assertEqual(multiplied(row, told), unit(len(row)))
                self.assertEqual(undone(told), row)

    def test_great_rows(self):
        for behind in great_rows():
            row = (1,) + behind[1:]
            told = asked(undone, row)
            self.assertEqual(multiplied(row, told), unit(121))
            self.assertEqual(undone(told), row)

    def test_one_number(self):
        self.assertEqual(asked(undone, (1,)), (1,))

    def test_by_hand(self):
        self.assertEqual(asked(undone, (1, 1, 1, 1)), (1, -1, 0, 0))
        self.assertEqual(asked(undone, (1, -2, 0, 0)), (1, 2, 4, 8))
        self.assertEqual(asked(undone, (1, 3)), (1, -3))

    def test_told_rows_of_601_numbers(self):
        for kind in great_kinds()[::4]:
            row = counts(kind, 600)
            told = asked(undone, row)
            self.assertEqual(multiplied(row, told), unit(601), kind)
            self.assertEqual(undone(told), row)

    def test_undone_is_the_product_of_the_powers_against(self):
        powers = tuple(scattered(600, 1, 11))
        against = tuple(-power for power in powers)
        self.assertEqual(undone(product(powers)), product(against))


if __name__ == "__main__":
    unittest.main()
