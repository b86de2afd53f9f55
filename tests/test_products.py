"""Points 10 and 11, and 3 (b): product, powers_found, steps_of, by_steps."""

import fractions
import itertools
import math
import unittest

from reckoning import asked, great_kinds, multiplied, product_by_words, scattered

from partrests.counting import counts
from partrests.errors import NoRow, PartError
from partrests.products import by_steps, powers_found, product, steps_of
from partrests.rows import times, undone

GREAT = 10 ** 6


def by_factors(powers):
    """product, each size's own row by binomials, all of them multiplied."""
    told = (1,) + (0,) * len(powers)
    for i, power in enumerate(powers, start=1):
        row = [0] * len(told)
        for k in range(len(powers) // i + 1):
            row[i * k] = math.comb(power + k - 1, k) if power > 0 else (-1) ** k * math.comb(-power, k)
        told = multiplied(told, row)
    return told


def steps_by_words(powers):
    """steps_of, number by number in the words of the document."""
    return tuple(sum(d * powers[d - 1] for d in range(1, j + 1) if j % d == 0) for j in range(1, len(powers) + 1))


def row_in_fractions(steps):
    """by_steps, with numbers that may be broken."""
    row = [fractions.Fraction(1)]
    for n in range(1, len(steps) + 1):
        row.append(sum((steps[j - 1] * row[n - j] for j in range(1, n + 1)), fractions.Fraction(0)) / n)
    return row


def great_powers():
    """120 powers of -20 to 20: at their bounds, and scattered."""
    told = [(20,) * 120, (-20,) * 120, tuple((-1) ** n * 20 for n in range(120))]
    return told + [tuple(scattered(120, 20, seed)) for seed in (1, 2)]


def long_powers():
    """600 powers of -1 to 1: at their bounds, and scattered."""
    told = [(1,) * 600, (-1,) * 600, (0,) * 600, tuple((-1) ** n for n in range(600))]
    return told + [tuple(scattered(600, 1, seed)) for seed in (1, 2)]


def great_rows():
    """Rows of 121 numbers that begin with 1, of 10 ** 6 either way, and scattered."""
    told = [(1,) + (GREAT,) * 120, (1,) + (-GREAT,) * 120, (1,) + tuple((-1) ** n * GREAT for n in range(120))]
    return told + [(1,) + tuple(scattered(120, most, seed)) for most in (1, 9, GREAT) for seed in (1, 2)]


class Product(unittest.TestCase):
    def test_all_short_powers(self):
        for many in range(5):
            for powers in itertools.product(range(-3, 4), repeat=many):
                told = asked(product, powers)
                self.assertEqual(told, product_by_words(powers), powers)
                self.assertEqual(told, by_factors(powers), powers)

    def test_the_edges(self):
        self.assertEqual(asked(product, ()), (1,))
        self.assertEqual(asked(product, (0,)), (1, 0))
        self.assertEqual(asked(product, (20,)), (1, 20))
        self.assertEqual(asked(product, (-20,)), (1, -20))
        self.assertEqual(asked(product, (1, 1, 1, 1, 1)), (1, 1, 2, 3, 5, 7))
        self.assertEqual(asked(product, (-1, -1, -1, -1, -1)), (1, -1, -1, 0, 0, 1))

    def test_great_powers(self):
        for powers in great_powers():
            told = asked(product, powers)
            self.assertEqual(len(told), 121)
            self.assertEqual(told, product_by_words(powers))
            self.assertEqual(told, by_factors(powers))

    def test_long_powers(self):
        for powers in long_powers():
            told = asked(product, powers)
            self.assertEqual(len(told), 601)
            self.assertEqual(told, product_by_words(powers))
        self.assertEqual(product((1,) * 600), counts(("all",), 600))

    def test_of_found_powers(self):
        for kind in (("all",), ("times", 2), ("times", 60), ("rests", 5, (1, 4)), ("own",), ("off", 2), ("most", 60)):
            row = counts(kind, 600)
            self.assertEqual(product(powers_found(row)), row, kind)


class PowersFound(unittest.TestCase):
    def test_of_all_short_products(self):
        for many in range(5):
            for powers in itertools.product(range(-3, 4), repeat=many):
                self.assertEqual(asked(powers_found, product_by_words(powers)), powers)

    def test_of_all_short_rows(self):
        for many in range(5):
            for behind in itertools.product(range(-3, 4), repeat=many):
                row = (1,) + behind
                told = asked(powers_found, row)
                self.assertEqual(len(told), many)
                self.assertEqual(by_factors(told), row, row)

    def test_the_edges(self):
        self.assertEqual(asked(powers_found, (1,)), ())
        self.assertEqual(asked(powers_found, (1, 0)), (0,))
        self.assertEqual(asked(powers_found, (1, GREAT)), (GREAT,))
        self.assertEqual(asked(powers_found, (1, -GREAT)), (-GREAT,))

    def test_of_great_products(self):
        for powers in great_powers() + long_powers():
            self.assertEqual(asked(powers_found, product(powers)), powers)

    def test_however_great(self):
        for row in great_rows():
            told = asked(powers_found, row)
            self.assertEqual(len(told), 120)
            self.assertEqual(by_steps(steps_of(told)), row)
        self.assertGreater(max(abs(power) for power in powers_found(great_rows()[0])), 10 ** 500)

    def test_great_powers_against_their_product(self):
        for row in great_rows():
            self.assertEqual(by_factors(powers_found(row[:13])), row[:13])

    def test_told_rows_of_601_numbers(self):
        for kind in great_kinds()[::4] + [("off", 3)]:
            row = counts(kind, 600)
            for one in (row, undone(row), times(row, row)):
                told = asked(powers_found, one)
                self.assertEqual(len(told), 600)
                self.assertEqual(by_steps(steps_of(told)), one, kind)

    def test_powers_of_rows_multiplied_are_put_together(self):
        one, other = great_rows()[3], great_rows()[5]
        told = tuple(a + b for a, b in zip(powers_found(one), powers_found(other)))
        self.assertEqual(powers_found(times(one, other)), told)
        self.assertEqual(powers_found(undone(one)), tuple(-power for power in powers_found(one)))


class StepsOf(unittest.TestCase):
    def test_by_their_words(self):
        for many in range(6):
            for powers in itertools.product((-2, 0, 1, 3), repeat=many):
                self.assertEqual(asked(steps_of, powers), steps_by_words(powers))

    def test_the_edges(self):
        self.assertEqual(asked(steps_of, ()), ())
        self.assertEqual(asked(steps_of, (20,)), (20,))
        self.assertEqual(asked(steps_of, (1,) * 12), (1, 3, 4, 7, 6, 12, 8, 15, 13, 18, 12, 28))
        self.assertEqual(asked(steps_of, (-1,) * 6), (-1, -3, -4, -7, -6, -12))

    def test_great_and_long_powers(self):
        for powers in great_powers() + long_powers():
            self.assertEqual(asked(steps_of, powers), steps_by_words(powers))

    def test_told_powers(self):
        for row in great_rows():
            powers = powers_found(row)
            self.assertEqual(asked(steps_of, powers), steps_by_words(powers))


class BySteps(unittest.TestCase):
    def refused(self, steps):
        with self.assertRaises(NoRow) as kept:
            by_steps(steps)
        self.assertIsInstance(kept.exception, PartError)

    def test_refused_just_where_some_number_is_broken(self):
        whole = broken = 0
        for many in range(6):
            for steps in itertools.product(range(-2, 3), repeat=many):
                row = row_in_fractions(steps)
                if all(number.denominator == 1 for number in row):
                    self.assertEqual(asked(by_steps, steps), tuple(int(number) for number in row))
                    whole += 1
                else:
                    self.refused(steps)
                    broken += 1
        self.assertGreater(min(whole, broken), 50)

    def test_broken_at_the_first_place(self):
        # At 1 every number is whole, so that the first place that may be broken is 2.
        for steps in ((1, 0), (0, 1), (GREAT, 1), (GREAT - 1, GREAT), (1,) + (0,) * 119, (-1, 0), (0, -1)):
            self.refused(steps)

    def test_broken_at_the_last_place_alone(self):
        for many in (2, 3, 60, 119, 120):
            steps = steps_of((1,) * many)
            self.assertEqual(asked(by_steps, steps), product((1,) * many))
            self.refused(steps[:-1] + (steps[-1] + 1,))
            self.refused(steps[:-1] + (steps[-1] - 1,))
            self.assertEqual(by_steps(steps[:-1]), product((1,) * (many - 1)))
            again = steps[:-1] + (steps[-1] + many,)
            self.assertEqual(by_steps(again), product((1,) * (many - 1) + (2,)))

    def test_broken_in_between_but_whole_at_the_end(self):
        steps = (0, 1, 0, -3)
        self.assertEqual([number.denominator for number in row_in_fractions(steps)], [1, 1, 2, 1, 8])
        self.refused(steps)
        steps = (0, 1, 0)
        self.assertEqual([number.denominator for number in row_in_fractions(steps)], [1, 1, 2, 1])
        self.refused(steps)

    def test_broken_at_each_place(self):
        good = steps_of((1,) * 40)
        for at in range(1, 40):
            self.refused(good[:at] + (good[at] + 1,) + good[at + 1:])

    def test_the_edges(self):
        self.assertEqual(asked(by_steps, ()), (1,))
        self.assertEqual(asked(by_steps, (GREAT,)), (1, GREAT))
        self.assertEqual(asked(by_steps, (-GREAT,)), (1, -GREAT))
        self.assertEqual(asked(by_steps, (0,) * 120), (1,) + (0,) * 120)
        self.assertEqual(asked(by_steps, (1,) * 120), (1,) * 121)
        self.assertEqual(asked(by_steps, (-1,) * 120), (1, -1) + (0,) * 119)

    def test_great_steps(self):
        for sign in (1, -1):
            steps = (sign * GREAT,) * 120
            row = row_in_fractions(steps)
            self.assertTrue(all(number.denominator == 1 for number in row))
            self.assertEqual(asked(by_steps, steps), tuple(int(number) for number in row))

    def test_rows_by_steps_are_those_by_products(self):
        for powers in great_powers() + long_powers():
            self.assertEqual(asked(by_steps, steps_of(powers)), product(powers))
        for many in range(5):
            for powers in itertools.product(range(-2, 3), repeat=many):
                self.assertEqual(by_steps(steps_of(powers)), product_by_words(powers))


if __name__ == "__main__":
    unittest.main()
