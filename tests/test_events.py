"""Point 23, and 3 (g): are_events, standing, sieved."""

import itertools
import unittest

from reckoning import GREAT_PARTINGS, PARTINGS, Prickly, are_events_by_words, asked, less_by_counts, multiplied
from reckoning import odd_events, odd_things, small_partings

from partrests.events import are_events, sieved, standing

TWELVE = tuple((size,) for size in range(1, 13))

EVENTS = (
    (),
    ((1,),),
    ((7,),),
    ((2, 1),),
    ((1, 1, 1),),
    ((31,),),
    ((299, 1),),
    ((300,),),
    ((301,),),
    ((1,) * 300,),
    ((1,) * 301,),
    ((1,), (2,)),
    ((2,), (1,)),
    ((1, 1), (2, 2), (3, 3)),
    ((5, 2, 2), (4, 1, 1, 1), (3,)),
    ((3, 2, 1), (6, 5, 4)),
    ((40, 1), (2,), (30, 3)),
    tuple((size,) for size in range(1, 9)),
    tuple((size, size) for size in range(8, 0, -1)),
    tuple((2 * size, 2 * size - 1) for size in range(1, 9)),
    ((1,) * 30, (2,) * 20, (3,) * 10, (4, 4), (5,), (9, 7, 6), (100, 100), (250, 8)),
    tuple((size,) for size in range(300, 292, -1)),
    ((16, 15, 14, 13, 12, 11, 10, 9, 8, 7, 6, 5, 4, 3, 2, 1),),
)

MANY_EVENTS = (
    TWELVE,
    tuple((size, size) for size in range(12, 0, -1)),
    tuple((24 - size, size) for size in range(1, 12)) + ((12, 12, 12),),
    tuple((size,) * size for size in range(1, 13)),
)


def stands_by_counts(event, parting):
    return less_by_counts(parting, event) is not None


def standing_by_counts(events, parting):
    return tuple(number for number in range(len(events)) if stands_by_counts(events[number], parting))


def without(event, most):
    """The row of how many ways there are to take sizes of an event alone so that it doesn't stand."""
    by_truth = {True: [1] + [0] * most, False: [0] * (most + 1)}
    for size in sorted(set(event)):
        grown = {True: [0] * (most + 1), False: [0] * (most + 1)}
        for stands, row in by_truth.items():
            for often in range(most // size + 1):
                still = stands and often >= event.count(size)
                for n in range(most + 1 - size * often):
                    grown[still][n + size * often] += row[n]
        by_truth = grown
    return by_truth[False]


def sieved_by_sizes(events, most):
    """sieved, by the sizes of each event for themselves, and those of none."""
    row = tuple([1] + [0] * most)
    for event in events:
        row = multiplied(row, without(event, most))
    taken = {size for event in events for size in event}
    row = list(row)
    for size in range(1, most + 1):
        if size not in taken:
            for n in range(size, most + 1):
                row[n] += row[n - size]
    return tuple(row)


class AreEvents(unittest.TestCase):
    def test_events_are(self):
        for events in EVENTS + MANY_EVENTS:
            self.assertIs(are_events_by_words(events), True, events)
            self.assertIs(asked(are_events, events), True, events)

    def test_pairs_and_threes_of_small_partings(self):
        some = small_partings(5) + [(2, 3), (0,), (1, 0)]
        for many in (1, 2):
            for events in itertools.product(some, repeat=many):
                self.assertIs(asked(are_events, events), are_events_by_words(events), events)
        for events in itertools.product(small_partings(3), repeat=3):
            self.assertIs(asked(are_events, events), are_events_by_words(events), events)

    def test_none_and_twelve_and_thirteen(self):
        self.assertIs(asked(are_events, ()), True)
        self.assertIs(asked(are_events, TWELVE), True)
        self.assertIs(asked(are_events, TWELVE[:11]), True)
        self.assertIs(asked(are_events, TWELVE + ((13,),)), False)
        self.assertIs(asked(are_events, TWELVE + TWELVE), False)

    def test_an_event_of_nought_is_none(self):
        for at in range(13):
            self.assertIs(asked(are_events, TWELVE[:at] + ((),) + TWELVE[at + 1:]), False)
        self.assertIs(asked(are_events, ((),)), False)

    def test_a_size_in_two_of_them(self):
        for at in range(12):
            for other in range(12):
                events = TWELVE[:at] + ((20,) + TWELVE[other],) + TWELVE[at + 1:]
                self.assertIs(asked(are_events, events), at == other, events)
        # One event may have a size as often as it likes.
        self.assertIs(asked(are_events, ((2, 2, 2), (1, 1))), True)
        self.assertIs(asked(are_events, ((2, 1, 1), (3, 1))), False)

    def test_of_any_weight(self):
        great = 10 ** 60
        self.assertIs(asked(are_events, ((great, 1), (great - 1,), (2,) * 5000)), True)
        self.assertIs(asked(are_events, ((great, 1), (great,))), False)
        self.assertIs(asked(are_events, GREAT_PARTINGS[:1] + GREAT_PARTINGS[3:4]), True)
        self.assertIs(asked(are_events, GREAT_PARTINGS), False)

    def test_a_list_is_no_tuple_a_truth_no_number(self):
        self.assertIs(asked(are_events, [(2,), (1,)]), False)
        self.assertIs(asked(are_events, ((2,), [1])), False)
        self.assertIs(asked(are_events, ((2,), (True,))), False)
        self.assertIs(asked(are_events, ((2, True),)), False)

    def test_anything_is_told_as_a_truth(self):
        for thing in odd_things() + odd_events() + [Prickly()]:
            self.assertIs(are_events(thing), are_events_by_words(thing))
        for thing in odd_things():
            self.assertIs(are_events(((2,), thing)), are_events_by_words(((2,), thing)))


class Standing(unittest.TestCase):
    def test_by_less(self):
        for events in EVENTS + MANY_EVENTS:
            for parting in small_partings(11) + list(GREAT_PARTINGS):
                self.assertEqual(asked(standing, events, parting), standing_by_counts(events, parting))

    def test_no_events(self):
        for parting in ((), (1,), (300,)):
            self.assertEqual(asked(standing, (), parting), ())

    def test_in_the_parting_of_nought(self):
        for events in EVENTS:
            self.assertEqual(asked(standing, events, ()), ())

    def test_by_hand(self):
        events = ((3, 1), (2, 2), (4,))
        self.assertEqual(asked(standing, events, (4, 3, 2, 2, 1)), (0, 1, 2))
        self.assertEqual(asked(standing, events, (4, 3, 2, 1)), (0, 2))
        self.assertEqual(asked(standing, events, (3, 2, 2)), (1,))
        self.assertEqual(asked(standing, events, (5, 3, 2)), ())
        self.assertEqual(asked(standing, TWELVE, tuple(range(12, 0, -1))), tuple(range(12)))


class Sieved(unittest.TestCase):
    def test_against_the_lists(self):
        for events in EVENTS:
            told = asked(sieved, events, 22)
            self.assertEqual(len(told), 23)
            for n in range(23):
                found = [parting for parting in PARTINGS[n] if not standing_by_counts(events, parting)]
                self.assertEqual(told[n], len(found), (events, n))

    def test_against_the_longest_lists(self):
        for events in EVENTS[11:18]:
            for n in (29, 30):
                found = [parting for parting in PARTINGS[n] if not standing_by_counts(events, parting)]
                self.assertEqual(sieved(events, n)[n], len(found), (events, n))

    def test_to_300_by_sizes(self):
        for events in EVENTS:
            self.assertEqual(asked(sieved, events, 300), sieved_by_sizes(events, 300), events)

    def test_every_most_begins_alike(self):
        for events in EVENTS:
            whole = sieved(events, 300)
            for most in (0, 1, 2, 3, 29, 30, 31, 299):
                self.assertEqual(asked(sieved, events, most), whole[:most + 1])

    def test_most_0(self):
        for events in EVENTS:
            self.assertEqual(asked(sieved, events, 0), (1,))

    def test_no_events_leave_all(self):
        self.assertEqual(asked(sieved, (), 10), (1, 1, 2, 3, 5, 7, 11, 15, 22, 30, 42))

    def test_eight_that_leave_few(self):
        first_eight = tuple((size,) for size in range(1, 9))
        self.assertEqual(asked(sieved, first_eight, 18), (1,) + (0,) * 8 + (1,) * 9 + (2,))

    def test_like_weights_leave_as_many(self):
        ones = tuple((size, size) for size in range(1, 9))
        others = tuple((2 * size,) for size in range(1, 9))
        self.assertEqual(sieved(ones, 300), sieved(others, 300))


if __name__ == "__main__":
    unittest.main()
