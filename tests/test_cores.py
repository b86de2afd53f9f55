"""Points 18 and 19, and 3 (d): vector, apart, is_core, joined, size_of, core_of."""

import fractions
import itertools
import unittest

from reckoning import GREAT_PARTINGS, PARTINGS, apart_by_words, asked, beads_by_words, enough_beads, parting_by_gaps
from reckoning import scattered, small_partings, vector_by_words

from partrests.cores import apart, core_of, is_core, joined, size_of, vector
from partrests.errors import NoCore, PartError
from partrests.hooks import hooks

STEPS = range(1, 13)


def core_by_steps(parting, t):
    """The core, by letting some bead down by t as long as one can."""
    beads = beads_by_words(parting, len(parting))
    free = [bead for bead in beads if bead >= t and bead - t not in beads]
    while free:
        beads.remove(free[0])
        beads.add(free[0] - t)
        free = [bead for bead in beads if bead >= t and bead - t not in beads]
    return parting_by_gaps(beads)


def tuples_of_partings(many, weight):
    """All tuples of so many partings of this weight together."""
    if many == 0:
        return [()] if weight == 0 else []
    told = []
    for first in range(weight + 1):
        for behind in tuples_of_partings(many - 1, weight - first):
            told += [(parting,) + behind for parting in PARTINGS[first]]
    return told


def all_vectors(t, most):
    """All tuples of t numbers from -most to most that are 0 together."""
    for behind in itertools.product(range(-most, most + 1), repeat=t - 1):
        if -most <= -sum(behind) <= most:
            yield (-sum(behind),) + behind


def steep_vectors():
    """Vectors of one to twelve numbers from -5 to 5, many of them at these bounds."""
    told = [(0,) * t for t in STEPS]
    for half in range(1, 7):
        told += [(5, -5) * half, (-5, 5) * half, (5,) * half + (-5,) * half, (-5,) * half + (5,) * half]
    told += [(5,) + (0,) * 10 + (-5,), (-5,) + (0,) * 10 + (5,), (5, -1, -1, -1, -1, -1), (-5, 1, 1, 1, 1, 1)]
    for seed in range(20):
        numbers = scattered(12, 5, seed)
        told.append(tuple(one - other for one, other in zip(numbers, numbers[1:] + numbers[:1])))
    return [numbers for numbers in told if max(numbers) <= 5 and min(numbers) >= -5]


class Vector(unittest.TestCase):
    def test_by_beads_with_more_than_one_k(self):
        for parting in small_partings(11):
            for t in STEPS:
                told = asked(vector, parting, t)
                for more in (0, 1, 3):
                    k = enough_beads(parting, t) + more * t
                    self.assertEqual(told, vector_by_words(parting, t, k), (parting, t, k))

    def test_great_partings(self):
        for parting in GREAT_PARTINGS:
            for t in STEPS:
                told = asked(vector, parting, t)
                self.assertEqual(sum(told), 0)
                for more in (0, 2):
                    self.assertEqual(told, vector_by_words(parting, t, enough_beads(parting, t) + more * t))

    def test_the_edges(self):
        for t in STEPS:
            self.assertEqual(asked(vector, (), t), (0,) * t)
        for parting in small_partings(8) + list(GREAT_PARTINGS):
            self.assertEqual(asked(vector, parting, 1), (0,))
        self.assertEqual(asked(vector, (4,), 5), (0, 0, 0, 1, -1))
        self.assertEqual(asked(vector, (2, 2), 5), (1, 1, 0, -1, -1))
        self.assertEqual(asked(vector, (1,), 2), (1, -1))
        self.assertEqual(asked(vector, (2, 1), 2), (-1, 1))


class Apart(unittest.TestCase):
    def test_by_beads_with_more_than_one_k(self):
        for parting in small_partings(10):
            for t in STEPS:
                told = asked(apart, parting, t)
                for more in (0, 1, 2):
                    k = enough_beads(parting, t) + more * t
                    self.assertEqual(told, apart_by_words(parting, t, k), (parting, t, k))

    def test_great_partings(self):
        for parting in GREAT_PARTINGS:
            for t in STEPS:
                told = asked(apart, parting, t)
                for more in (0, 1):
                    self.assertEqual(told, apart_by_words(parting, t, enough_beads(parting, t) + more * t))

    def test_the_core_by_steps(self):
        for parting in small_partings(13) + [(300,), (150, 150), (17,) * 17 + (11,), tuple(range(24, 0, -1))]:
            for t in STEPS:
                self.assertEqual(apart(parting, t)[0], core_by_steps(parting, t), (parting, t))

    def test_the_weights(self):
        for parting in small_partings(15) + list(GREAT_PARTINGS):
            for t in STEPS:
                core, quotients = apart(parting, t)
                self.assertEqual(len(quotients), t)
                self.assertEqual(sum(parting), sum(core) + t * sum(sum(quotient) for quotient in quotients))

    def test_the_core_has_the_same_vector(self):
        for parting in small_partings(12) + list(GREAT_PARTINGS):
            for t in STEPS:
                core = apart(parting, t)[0]
                self.assertEqual(vector(core, t), vector(parting, t))
                self.assertEqual(size_of(vector(parting, t)), sum(core))
                self.assertEqual(apart(core, t), (core, ((),) * t))

    def test_each_parting_has_its_own_core_and_quotients(self):
        for t in (1, 2, 3, 5, 12):
            for n in range(16):
                told = {apart(parting, t) for parting in PARTINGS[n]}
                self.assertEqual(len(told), len(PARTINGS[n]))

    def test_the_edges(self):
        for t in STEPS:
            self.assertEqual(asked(apart, (), t), ((), ((),) * t))
        for parting in small_partings(8) + list(GREAT_PARTINGS):
            self.assertEqual(asked(apart, parting, 1), ((), (parting,)))
        self.assertEqual(asked(apart, (300,), 12), ((), ((),) * 11 + ((25,),)))
        self.assertEqual(asked(apart, (1,) * 300, 12), ((), ((1,) * 25,) + ((),) * 11))
        self.assertEqual(asked(apart, (2,), 2), ((), ((), (1,))))
        self.assertEqual(asked(apart, (1, 1), 2), ((), ((1,), ())))
        self.assertEqual(asked(apart, (2, 1), 2), ((2, 1), ((), ())))


class IsCore(unittest.TestCase):
    def test_by_its_words(self):
        for parting in small_partings(13):
            for t in STEPS:
                told = core_by_steps(parting, t) == parting
                self.assertIs(asked(is_core, parting, t), told, (parting, t))

    def test_just_where_no_hook_is_parted(self):
        for parting in small_partings(14) + list(GREAT_PARTINGS):
            for t in STEPS:
                told = not any(hook % t == 0 for row in hooks(parting) for hook in row)
                self.assertIs(is_core(parting, t), told, (parting, t))

    def test_the_edges(self):
        for t in STEPS:
            self.assertIs(asked(is_core, (), t), True)
            self.assertIs(asked(is_core, (300,), t), False)
            self.assertIs(asked(is_core, (1,) * 300, t), False)
            self.assertIs(asked(is_core, (t,), t), False)
            self.assertIs(asked(is_core, (1,) * t, t), False)
            if t > 1:
                self.assertIs(asked(is_core, (t - 1,), t), True)
                self.assertIs(asked(is_core, (1,) * (t - 1), t), True)
        self.assertIs(asked(is_core, (1,), 1), False)
        # 24 + 23 + .. + 1 has odd hooks alone.
        self.assertIs(asked(is_core, tuple(range(24, 0, -1)), 2), True)
        self.assertIs(asked(is_core, tuple(range(24, 0, -1)), 3), False)


class Joined(unittest.TestCase):
    def test_of_what_apart_tells(self):
        for parting in small_partings(14) + list(GREAT_PARTINGS):
            for t in STEPS:
                core, quotients = apart(parting, t)
                self.assertEqual(asked(joined, core, quotients), parting, (parting, t))

    def test_what_is_joined_comes_apart_so(self):
        for t, most in ((1, 8), (2, 6), (3, 5), (4, 4), (7, 2), (12, 2)):
            cores = [parting for parting in small_partings(9) if core_by_steps(parting, t) == parting]
            for weight in range(most + 1):
                for quotients in tuples_of_partings(t, weight):
                    for core in cores[:8] + cores[-2:]:
                        parting = joined(core, quotients)
                        self.assertEqual(sum(parting), sum(core) + t * weight)
                        self.assertEqual(apart(parting, t), (core, quotients))

    def test_great_ones(self):
        for t in STEPS:
            great = 300 // t
            for quotient in ((great,), (1,) * great, (great - 1, 1), (2,) * (great // 2)):
                for rest in {0, t // 2, t - 1}:
                    quotients = ((),) * rest + (quotient,) + ((),) * (t - rest - 1)
                    parting = asked(joined, (), quotients)
                    self.assertEqual(apart_by_words(parting, t, enough_beads(parting, t)), ((), quotients))

    def test_a_great_core_and_long_quotients(self):
        core = core_of((3, -2, -1, 0))
        for quotients in (((), (1,) * 50, (), ()), ((1,) * 20, (2,) * 10, (3, 3), (15,)), ((), (), (), (1,) * 60)):
            self.assertLessEqual(sum(core) + 4 * sum(sum(quotient) for quotient in quotients), 300)
            parting = asked(joined, core, quotients)
            self.assertEqual(apart_by_words(parting, 4, enough_beads(parting, 4)), (core, quotients))

    def test_all_quotients_empty(self):
        for t in (1, 2, 3, 12):
            for parting in small_partings(12):
                if core_by_steps(parting, t) == parting:
                    self.assertEqual(asked(joined, parting, ((),) * t), parting)
        self.assertEqual(asked(joined, (), ((),)), ())
        self.assertEqual(asked(joined, (), ((),) * 12), ())

    def refused(self, core, quotients):
        with self.assertRaises(NoCore) as kept:
            joined(core, quotients)
        self.assertIsInstance(kept.exception, PartError)

    def test_refused_just_where_the_core_is_none(self):
        for parting in small_partings(11):
            for t in STEPS:
                for quotients in (((),) * t, ((2, 1),) + ((),) * (t - 1), ((),) * (t - 1) + ((1,),), ((1,),) * t):
                    if core_by_steps(parting, t) == parting:
                        self.assertEqual(apart(joined(parting, quotients), t), (parting, quotients))
                    else:
                        self.refused(parting, quotients)

    def test_a_core_by_another_number_is_refused(self):
        self.refused((2, 1), ((), (), ()))
        self.assertEqual(asked(joined, (2, 1), ((), ())), (2, 1))
        self.refused((1,), ((),))
        self.refused((1,), ((5,),))
        self.refused((12,), ((),) * 12)
        self.assertEqual(asked(joined, (11,), ((),) * 12), (11,))
        self.refused((12,), ((),) * 11 + ((1,),))

    def test_by_hand(self):
        self.assertEqual(asked(joined, (), ((4, 2),)), (4, 2))
        self.assertEqual(asked(joined, (), ((), (1,))), (2,))
        self.assertEqual(asked(joined, (), ((1,), ())), (1, 1))


class SizeOf(unittest.TestCase):
    def test_by_its_words(self):
        for t, most in ((1, 1), (2, 9), (3, 5), (4, 3), (5, 2)):
            for numbers in all_vectors(t, most):
                squares = fractions.Fraction(t * sum(number ** 2 for number in numbers), 2)
                told = squares + sum(place * number for place, number in enumerate(numbers))
                self.assertEqual(asked(size_of, numbers), told, numbers)

    def test_of_64_figures(self):
        great = 10 ** 64 - 1
        for numbers in ((great, -great) * 6, (-great, great) * 6, (great,) * 6 + (-great,) * 6, (great, -great),
                        (0,) * 10 + (-great, great), (great, -great + 1, -1), (-5, great, 5 - great)):
            t = len(numbers)
            squares = fractions.Fraction(t * sum(number ** 2 for number in numbers), 2)
            told = squares + sum(place * number for place, number in enumerate(numbers))
            self.assertEqual(told.denominator, 1)
            self.assertEqual(asked(size_of, numbers), told)

    def test_the_edges(self):
        self.assertEqual(asked(size_of, (0,)), 0)
        self.assertEqual(asked(size_of, (0,) * 12), 0)
        self.assertEqual(asked(size_of, (1, -1)), 1)
        self.assertEqual(asked(size_of, (-1, 1)), 3)
        self.assertEqual(asked(size_of, (0, 0, 0, 1, -1)), 4)


class CoreOf(unittest.TestCase):
    def looked_at(self, numbers):
        t = len(numbers)
        core = asked(core_of, numbers)
        self.assertEqual(vector_by_words(core, t, enough_beads(core, t)), numbers)
        self.assertEqual(vector(core, t), numbers)
        self.assertEqual(sum(core), size_of(numbers))
        self.assertIs(is_core(core, t), True)
        return core

    def test_by_vector_and_weight(self):
        for t, most in ((1, 5), (2, 5), (3, 5), (4, 3), (5, 2)):
            told = [self.looked_at(numbers) for numbers in all_vectors(t, most)]
            self.assertEqual(len(set(told)), len(told))

    def test_steep_vectors(self):
        for numbers in steep_vectors():
            self.looked_at(numbers)

    def test_of_vectors_of_small_partings(self):
        for parting in small_partings(12):
            for t in (2, 3, 4, 5, 7, 11, 12):
                self.assertEqual(core_of(vector(parting, t)), core_by_steps(parting, t))

    def test_all_small_cores_come_so(self):
        for t, most in ((2, 5), (3, 4), (4, 3)):
            told = {core_of(numbers) for numbers in all_vectors(t, most)}
            for parting in small_partings(20):
                self.assertEqual(parting in told, is_core(parting, t), (parting, t))

    def test_the_edges(self):
        self.assertEqual(asked(core_of, (0,)), ())
        self.assertEqual(asked(core_of, (0,) * 12), ())
        self.assertEqual(asked(core_of, (1, -1)), (1,))
        self.assertEqual(asked(core_of, (-1, 1)), (2, 1))
        self.assertEqual(asked(core_of, (5, -5)), tuple(range(9, 0, -1)))
        self.assertEqual(asked(core_of, (-5, 5)), tuple(range(10, 0, -1)))


if __name__ == "__main__":
    unittest.main()
