"""Point 24, and 3 (g): led."""

import unittest

from reckoning import PARTINGS, Prickly, are_events_by_words, asked, less_by_counts, odd_events, odd_things, refusal
from reckoning import small_partings

from partrests.errors import NoList, NoPair
from partrests.leading import led


def doubles(some):
    return tuple((size, size) for size in some)


def singles(some):
    return tuple((size,) for size in some)


PAIRS = (
    ((), ()),
    (((1,),), ((1,),)),
    (((2,),), ((1, 1),)),
    (((1, 1),), ((2,),)),
    (((2, 1),), ((3,),)),
    (((31,),), ((30, 1),)),
    (((1,) * 40,), ((40,),)),
    (((30,),), ((1,) * 30,)),
    (((1,) * 30,), ((2,) * 15,)),
    (doubles(range(1, 13)), singles(range(2, 25, 2))),
    (doubles(range(12, 0, -1)), singles(range(24, 1, -2))),
    (tuple((size,) * 3 for size in range(1, 11)), singles(range(3, 31, 3))),
    (doubles((1, 2, 4, 8, 16)), singles((2, 4, 8, 16, 32))),
    (singles((2, 4, 8, 16, 32)), doubles((1, 2, 4, 8, 16))),
    (((3, 1), (4,), (2, 2)), ((4,), (2, 2), (3, 1))),
    (((3, 1), (4,), (2, 2)), ((2, 2), (3, 1), (4,))),
    (((2, 1), (5,), (4, 3)), ((3,), (4, 1), (5, 2))),
    (((5, 1), (6,), (4, 2), (3, 3)), ((6,), (3, 3), (5, 1), (4, 2))),
    (((1,) * 6, (2, 2, 2), (3, 3), (6,)), ((2, 2, 2), (3, 3), (6,), (1,) * 6)),
    (singles(range(1, 13)), singles(range(1, 13))),
)


def stand_in(events, parting):
    return [number for number, event in enumerate(events) if less_by_counts(parting, event) is not None]


def one_step(ones, others, parting):
    """The number of the first of the others that stands, and the parting behind the step; None where none stands."""
    found = stand_in(others, parting)
    if not found:
        return None
    left = list(less_by_counts(parting, others[found[0]]))
    return found[0], tuple(sorted(left + list(ones[found[0]]), reverse=True))


def led_by_steps(ones, others, parting):
    """led, step by step; looked at on the way is that no parting comes twice."""
    met = [parting]
    walk = []
    step = one_step(ones, others, parting)
    while step is not None:
        walk.append(step[0])
        assert step[1] not in met, (ones, others, parting)
        met.append(step[1])
        step = one_step(ones, others, step[1])
    return met[-1], tuple(walk)


class Led(unittest.TestCase):
    def test_the_pairs_are_pairs(self):
        for ones, others in PAIRS:
            self.assertTrue(are_events_by_words(ones) and are_events_by_words(others))
            self.assertEqual([sum(event) for event in ones], [sum(event) for event in others])

    def looked_at(self, ones, others, n, some):
        for parting in some:
            if stand_in(ones, parting):
                self.assertIs(refusal(led, ones, others, parting), NoList, (ones, others, parting))
                continue
            told, walk = asked(led, ones, others, parting)
            self.assertEqual((told, walk), led_by_steps(ones, others, parting))
            self.assertEqual(sum(told), n)
            self.assertEqual(stand_in(others, told), [])
            back, walk_back = asked(led, others, ones, told)
            self.assertEqual(back, parting)
            self.assertEqual(len(walk_back), len(walk))

    def test_step_by_step_and_back(self):
        for ones, others in PAIRS:
            for n in range(13):
                self.looked_at(ones, others, n, PARTINGS[n])

    def test_weight_30(self):
        for ones, others in PAIRS:
            self.looked_at(ones, others, 30, PARTINGS[30][::7])

    def test_one_list_is_led_to_the_other_each_once(self):
        for ones, others in PAIRS:
            for n in (0, 1, 6, 12, 20):
                from_there = [parting for parting in PARTINGS[n] if not stand_in(ones, parting)]
                to_there = [parting for parting in PARTINGS[n] if not stand_in(others, parting)]
                self.assertEqual(sorted(led(ones, others, parting)[0] for parting in from_there), to_there)

    def test_no_events_lead_nowhere(self):
        for parting in small_partings(6) + [(30,), (1,) * 30]:
            self.assertEqual(asked(led, (), (), parting), (parting, ()))

    def test_events_that_never_stand(self):
        for ones, others in ((((31,),), ((30, 1),)), (((1,) * 40,), ((40,),)), (((300, 5),), ((301, 4),))):
            for parting in small_partings(6) + [(30,), (1,) * 30, (16, 14)]:
                self.assertEqual(asked(led, ones, others, parting), (parting, ()))
                self.assertEqual(asked(led, others, ones, parting), (parting, ()))

    def test_the_parting_of_nought(self):
        for ones, others in PAIRS:
            self.assertEqual(asked(led, ones, others, ()), ((), ()))

    def test_by_hand(self):
        ones, others = doubles((1, 2, 3)), singles((2, 4, 6))
        self.assertEqual(asked(led, ones, others, (4,)), ((1, 1, 1, 1), (1, 0, 0)))
        self.assertEqual(asked(led, others, ones, (1, 1, 1, 1)), ((4,), (0, 0, 1)))
        self.assertEqual(asked(led, ones, others, (6, 3, 2, 1)), ((3, 3, 3, 1, 1, 1), (0, 2)))
        self.assertEqual(asked(led, ((2,),), ((1, 1),), (1,) * 5), ((2, 2, 1), (0, 0)))
        self.assertEqual(asked(led, ((1,) * 30,), ((30,),), (30,)), ((1,) * 30, (0,)))

    def test_the_first_that_stands_is_taken(self):
        self.assertEqual(asked(led, ((1, 1), (8,)), ((2,), (5, 3)), (5, 3, 2, 2)), ((8, 1, 1, 1, 1), (0, 0, 1)))
        self.assertEqual(asked(led, ((8,), (1, 1)), ((5, 3), (2,)), (5, 3, 2, 2)), ((8, 1, 1, 1, 1), (0, 1, 1)))
        ones, others = ((2, 1), (7,)), ((3,), (6, 1))
        # The second one stands only when the first one was exchanged.
        self.assertEqual(asked(led, ones, others, (6, 3)), ((7, 2), (0, 1)))


class Refused(unittest.TestCase):
    def test_of_anything_with_no_pair(self):
        for thing in odd_things() + odd_events() + [Prickly()]:
            if not are_events_by_words(thing):
                for good in ((), ((2,),), singles(range(1, 13))):
                    for parting in ((), (2, 1), (30,)):
                        self.assertIs(refusal(led, thing, good, parting), NoPair)
                        self.assertIs(refusal(led, good, thing, parting), NoPair)
                self.assertIs(refusal(led, thing, thing, (2, 1)), NoPair)

    def test_not_as_many(self):
        for ones, others in PAIRS:
            if ones:
                self.assertIs(refusal(led, ones[1:], others, (1,)), NoPair)
                self.assertIs(refusal(led, ones, others[1:], (1,)), NoPair)
                self.assertIs(refusal(led, ones[:-1], others, (1,)), NoPair)
                self.assertIs(refusal(led, ones, (), (1,)), NoPair)
                self.assertIs(refusal(led, (), others, (1,)), NoPair)

    def test_unlike_weights(self):
        for ones, others in ((((3,),), ((2,),)), (((2, 2),), ((2,),)), (((1, 1), (6,)), ((2,), (5,))),
                             (((1,), (2,)), ((2,), (1,))), (((300,),), ((299,),))):
            for parting in ((), (1,), (4,), (30,)):
                self.assertIs(refusal(led, ones, others, parting), NoPair, (ones, others))
                self.assertIs(refusal(led, others, ones, parting), NoPair, (ones, others))

    def test_thirteen_events(self):
        thirteen = singles(range(1, 14))
        self.assertIs(refusal(led, thirteen, thirteen, (20,)), NoPair)
        self.assertIs(refusal(led, thirteen[:12], thirteen[:12], (20,)), None)

    def test_no_pair_ahead_of_no_list(self):
        for others in (((3,),), ((1, 1), (3,)), ((1, 1), (2,)), [(1, 1)], None, ((),), ((1,), (1,)), ()):
            self.assertIs(refusal(led, ((2,),), ((1, 1),), (2,)), NoList)
            self.assertIs(refusal(led, ((2,),), others, (2,)), NoPair, others)
        for ones in ([(2,)], ((2,), (2,)), ((2,), ()), ((2,), (3,))):
            self.assertIs(refusal(led, ones, ((1, 1),), (2,)), NoPair, ones)

    def test_no_list_just_where_one_of_ones_stands(self):
        for ones, others in PAIRS:
            for parting in small_partings(9) + list(PARTINGS[30][::97]):
                due = NoList if stand_in(ones, parting) else None
                self.assertIs(refusal(led, ones, others, parting), due, (ones, others, parting))


if __name__ == "__main__":
    unittest.main()
