"""Point 4: is_parting, weight, turned, sizes, both, less."""

import copy
import itertools
import unittest

from reckoning import GREAT_PARTINGS, PARTINGS, Prickly, asked, nested, odd_things, small_partings

from partrests.partings import both, is_parting, less, sizes, turned, weight


class IsParting(unittest.TestCase):
    def test_all_partings_of_small_numbers_are(self):
        for parting in small_partings(18) + list(GREAT_PARTINGS):
            self.assertIs(asked(is_parting, parting), True, parting)

    def test_the_one_of_nought_is(self):
        self.assertIs(asked(is_parting, ()), True)

    def test_of_any_weight(self):
        for parting in ((301,), (1,) * 301, (10 ** 100,), (10 ** 100, 10 ** 100, 1), (1,) * 5000):
            self.assertIs(asked(is_parting, parting), True)

    def test_of_all_short_tuples_just_those_that_fall(self):
        for many in range(5):
            for numbers in itertools.product(range(-1, 5), repeat=many):
                told = numbers in PARTINGS.get(sum(numbers), ())
                self.assertIs(asked(is_parting, numbers), told, numbers)

    def test_noughts_and_numbers_below_are_none(self):
        for thing in ((0,), (-1,), (1, 0), (3, 2, 0), (3, -2), (-1, -2), (10 ** 50, -10 ** 50), (1,) * 300 + (0,)):
            self.assertIs(asked(is_parting, thing), False, thing)

    def test_parts_that_rise_are_none(self):
        for thing in ((1, 2), (2, 1, 2), (3, 3, 4), (5, 1, 1, 2), (1,) * 299 + (2,), (1, 300)):
            self.assertIs(asked(is_parting, thing), False, thing)

    def test_truths_are_no_numbers(self):
        for thing in ((True,), (False,), (2, True), (True, True), (True, 1), (1, True), (2, 1, True)):
            self.assertIs(asked(is_parting, thing), False, thing)

    def test_lists_are_no_tuples(self):
        for thing in ([], [1], [3, 2, 1], ([],), ([3, 2],), (3, [2]), (3, (2,))):
            self.assertIs(asked(is_parting, thing), False, thing)

    def test_other_parts_are_none(self):
        for part in (None, "1", "", b"1", [1], (1,), (), {}, {1}, 1j, len):
            for thing in ((part,), (2, part), (part, 1), (3, part, 1)):
                self.assertIs(is_parting(thing), False, thing)

    def test_anything_is_told_as_a_truth(self):
        for thing in odd_things():
            self.assertIs(is_parting(thing), False, repr(thing))

    def test_thirty_deep(self):
        for inner in ((), (1,), 1, None):
            self.assertIs(is_parting(nested(inner, lambda thing: (thing,), 30)), False)
            self.assertIs(is_parting(nested(inner, lambda thing: [thing], 30)), False)

    def test_things_that_take_no_question(self):
        for thing in (Prickly(), (Prickly(),), (1, Prickly()), (Prickly(), 1)):
            self.assertIs(is_parting(thing), False)

    def test_what_is_handed_in_stays(self):
        for thing in ([3, 1, 2], {"a": [1]}, ([2, 1],), {1, 2}):
            kept = copy.deepcopy(thing)
            is_parting(thing)
            self.assertEqual(thing, kept)


class Weight(unittest.TestCase):
    def test_of_all_partings_of_small_numbers(self):
        for n in range(21):
            for parting in PARTINGS[n]:
                self.assertEqual(asked(weight, parting), n)

    def test_the_edges(self):
        self.assertEqual(asked(weight, ()), 0)
        for parting in GREAT_PARTINGS:
            self.assertEqual(asked(weight, parting), 300)


class Turned(unittest.TestCase):
    def test_by_its_words(self):
        for parting in small_partings(20) + list(GREAT_PARTINGS):
            greatest = max(parting, default=0)
            told = tuple(len([part for part in parting if part >= size]) for size in range(1, greatest + 1))
            self.assertEqual(asked(turned, parting), told)

    def test_turned_twice_it_is_the_same(self):
        for parting in small_partings(20) + list(GREAT_PARTINGS):
            self.assertEqual(turned(turned(parting)), parting)

    def test_the_edges(self):
        self.assertEqual(asked(turned, ()), ())
        self.assertEqual(asked(turned, (300,)), (1,) * 300)
        self.assertEqual(asked(turned, (1,) * 300), (300,))
        self.assertEqual(asked(turned, (4, 3, 1)), (3, 2, 2, 1))


class Sizes(unittest.TestCase):
    def test_by_its_words(self):
        for parting in small_partings(20) + list(GREAT_PARTINGS):
            told = tuple((size, parting.count(size)) for size in range(300, 0, -1) if size in parting)
            self.assertEqual(asked(sizes, parting), told)

    def test_the_edges(self):
        self.assertEqual(asked(sizes, ()), ())
        self.assertEqual(asked(sizes, (300,)), ((300, 1),))
        self.assertEqual(asked(sizes, (1,) * 300), ((1, 300),))
        self.assertEqual(asked(sizes, (5, 5, 2, 1, 1, 1)), ((5, 2), (2, 1), (1, 3)))


def taken_off(one, other):
    """less, reckoned size by size."""
    left = ()
    for size in sorted(set(one + other), reverse=True):
        often = one.count(size) - other.count(size)
        if often < 0:
            return None
        left += (size,) * often
    return left


class BothAndLess(unittest.TestCase):
    def test_both_by_its_words(self):
        for one in small_partings(9):
            for other in small_partings(7):
                told = tuple(size for size in range(9, 0, -1) for often in range(one.count(size) + other.count(size)))
                self.assertEqual(asked(both, one, other), told)

    def test_both_of_great_ones(self):
        for one in GREAT_PARTINGS:
            self.assertEqual(asked(both, one, ()), one)
            self.assertEqual(asked(both, (), one), one)
            for other in GREAT_PARTINGS:
                self.assertEqual(asked(both, one, other), tuple(sorted(list(one) + list(other)))[::-1])

    def test_less_by_its_words(self):
        for one in small_partings(9):
            for other in small_partings(8):
                self.assertEqual(asked(less, one, other), taken_off(one, other), (one, other))

    def test_less_of_great_ones(self):
        for one in GREAT_PARTINGS:
            self.assertEqual(asked(less, one, ()), one)
            self.assertEqual(asked(less, one, one), ())
            self.assertIsNone(asked(less, (), one))
            for other in GREAT_PARTINGS:
                self.assertEqual(asked(less, one, other), taken_off(one, other))

    def test_less_takes_off_what_was_put_to_it(self):
        for one in small_partings(8):
            for other in small_partings(8):
                self.assertEqual(less(both(one, other), other), one)

    def test_less_is_none_just_where_a_size_stands_more_often_in_the_other(self):
        self.assertIsNone(asked(less, (3, 3, 1), (3, 3, 3)))
        self.assertIsNone(asked(less, (3, 3, 1), (2,)))
        self.assertIsNone(asked(less, (3, 3, 1), (3, 1, 1)))
        self.assertIsNone(asked(less, (1,) * 299, (1,) * 300))
        self.assertEqual(asked(less, (1,) * 300, (1,) * 299), (1,))
        self.assertEqual(asked(less, (3, 3, 1), (3, 1)), (3,))
        self.assertEqual(asked(less, (3, 3, 1), (3, 3)), (1,))
        self.assertEqual(asked(less, (), ()), ())


if __name__ == "__main__":
    unittest.main()
