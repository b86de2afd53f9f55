"""Point 26, and 3 (h): place_of, at."""

import functools
import unittest

from reckoning import PARTINGS, asked, is_of_kind, partings_of_great, refusal, small_kinds

from partrests.counting import counts
from partrests.errors import NoPlace
from partrests.places import at, place_of

KINDS = [kind for kind in small_kinds() if kind != ("own",)]

GREAT_KINDS = [
    ("all",), ("most", 1), ("most", 2), ("most", 17), ("most", 60), ("most", 149), ("most", 150), ("most", 599),
    ("most", 600), ("few", 1), ("few", 2), ("few", 9), ("few", 60), ("few", 149), ("few", 150), ("few", 599),
    ("few", 600), ("box", 1, 150), ("box", 150, 1), ("box", 13, 13), ("box", 12, 20), ("box", 60, 5), ("box", 5, 60),
    ("box", 599, 600), ("box", 600, 2), ("box", 2, 599), ("off", 1), ("off", 2), ("off", 3), ("off", 60), ("off", 148),
    ("off", 149), ("off", 599), ("off", 600), ("times", 2), ("times", 3), ("times", 11), ("times", 59), ("times", 60),
    ("rests", 2, (0,)), ("rests", 2, (1,)), ("rests", 5, (1, 4)), ("rests", 60, (0, 30)), ("rests", 60, (59,)),
    ("rests", 60, (1, 2, 59)), ("rests", 60, tuple(range(60))), ("rests", 59, tuple(range(59))),
]

NUMBERS = (0, 1, 2, 31, 75, 119, 149, 150)


@functools.lru_cache(maxsize=None)
def ways(kind, left, top):
    """How many partings of what is left, of the kind, have no part above top, size by size."""
    if left < 0:
        return 0
    word = kind[0]
    if left == 0 or top <= 0:
        return int(left == 0)
    if word in ("few", "box") and kind[-1] > left:
        return ways(kind[:-1] + (left,), left, top)
    told = ways(kind, left, top - 1)
    if word in ("few", "box") and kind[-1] == 0:
        return told
    if word in ("most", "box") and top > kind[1] or word == "rests" and top % kind[1] not in kind[2]:
        return told
    if word == "times":
        return sum(ways(kind, left - often * top, top - 1) for often in range(kind[1]))
    if word == "off":
        return told + ways(kind, left - top, top - kind[1])
    return told + ways(one_part_gone(kind), left - top, top)


def one_part_gone(kind):
    return kind[:-1] + (kind[-1] - 1,) if kind[0] in ("few", "box") else kind


def place_by_ways(kind, parting):
    """How many are less: alike ahead of some part, and lesser there."""
    place = 0
    for step, part in enumerate(parting):
        place += ways(kind, sum(parting[step:]), part - 1)
        kind = one_part_gone(kind)
    return place


def some_places(many):
    """Places from the first to the last one."""
    return sorted({place for place in (0, 1, 2, many // 7, many // 3, many // 2, many - 3, many - 2, many - 1)
                   if 0 <= place < many})


class Small(unittest.TestCase):
    def test_every_place_of_every_list(self):
        for kind in KINDS:
            for n in range(13):
                there = [parting for parting in PARTINGS[n] if is_of_kind(kind, parting)]
                for place, parting in enumerate(there):
                    self.assertEqual(asked(place_of, kind, parting), place, (kind, parting))
                    self.assertEqual(asked(at, kind, n, place), parting, (kind, n, place))

    def test_some_places_of_long_lists(self):
        for kind in KINDS:
            for n in (19, 24, 30):
                there = [parting for parting in PARTINGS[n] if is_of_kind(kind, parting)]
                for place in some_places(len(there)):
                    self.assertEqual(place_of(kind, there[place]), place, (kind, n))
                    self.assertEqual(at(kind, n, place), there[place], (kind, n))

    def test_refused_just_where_it_is_not_of_the_kind(self):
        for kind in KINDS:
            for n in range(9):
                for parting in PARTINGS[n]:
                    due = None if is_of_kind(kind, parting) else NoPlace
                    self.assertIs(refusal(place_of, kind, parting), due, (kind, parting))

    def test_refused_just_where_there_is_no_such_place(self):
        for kind in KINDS:
            for n in range(13):
                many = len([parting for parting in PARTINGS[n] if is_of_kind(kind, parting)])
                for place in (-10 ** 60, -many - 1, -many, -2, -1, many, many + 1, many + 7, 10 ** 59, 10 ** 60 - 1):
                    if place >= many or place < 0:
                        self.assertIs(refusal(at, kind, n, place), NoPlace, (kind, n, place))


class Great(unittest.TestCase):
    def test_there_and_back(self):
        for kind in GREAT_KINDS:
            for n in NUMBERS:
                many = counts(kind, n)[n]
                found = [asked(at, kind, n, place) for place in some_places(many)]
                self.assertEqual(found, sorted(found))
                for place, parting in zip(some_places(many), found):
                    self.assertEqual(list(parting), sorted(parting, reverse=True))
                    self.assertEqual(sum(parting), n)
                    self.assertTrue(is_of_kind(kind, parting), (kind, parting))
                    self.assertEqual(asked(place_of, kind, parting), place, (kind, parting))

    def test_against_another_count(self):
        for kind in GREAT_KINDS:
            for n in (75, 149, 150):
                for parting in partings_of_great(n):
                    if is_of_kind(kind, parting):
                        self.assertEqual(asked(place_of, kind, parting), place_by_ways(kind, parting), (kind, parting))
                    else:
                        self.assertIs(refusal(place_of, kind, parting), NoPlace, (kind, parting))
                for place in some_places(counts(kind, n)[n]):
                    self.assertEqual(place_by_ways(kind, at(kind, n, place)), place, (kind, n))

    def test_there_is_none_behind_the_last_one(self):
        for kind in GREAT_KINDS:
            for n in NUMBERS:
                many = counts(kind, n)[n]
                for place in (-10 ** 59, -1, many, many + 1, 10 ** 59):
                    self.assertIs(refusal(at, kind, n, place), NoPlace, (kind, n, place))
                if many:
                    self.assertIs(refusal(at, kind, n, many - 1), None)

    def test_neighbours_are_neighbours(self):
        for kind in GREAT_KINDS:
            many = counts(kind, 150)[150]
            for place in some_places(many - 1):
                self.assertLess(at(kind, 150, place), at(kind, 150, place + 1))

    def test_by_hand(self):
        self.assertEqual(asked(at, ("all",), 150, 0), (1,) * 150)
        self.assertEqual(asked(at, ("all",), 150, 1), (2,) + (1,) * 148)
        self.assertEqual(asked(at, ("all",), 150, 40853235313 - 1), (150,))
        self.assertEqual(asked(at, ("all",), 150, 40853235313 - 2), (149, 1))
        self.assertEqual(asked(at, ("all",), 150, 40853235313 - 4), (148, 1, 1))
        self.assertIs(refusal(at, ("all",), 150, 40853235313), NoPlace)
        self.assertEqual(asked(place_of, ("all",), (150,)), 40853235312)
        self.assertEqual(asked(at, ("few", 2), 150, 0), (75, 75))
        self.assertEqual(asked(at, ("few", 2), 150, 75), (150,))
        self.assertEqual(asked(at, ("off", 149), 150, 0), (150,))
        self.assertEqual(asked(at, ("off", 148), 150, 0), (149, 1))
        self.assertEqual(asked(at, ("most", 2), 150, 75), (2,) * 75)


class Edges(unittest.TestCase):
    def test_of_nought(self):
        for kind in KINDS + GREAT_KINDS:
            self.assertEqual(asked(place_of, kind, ()), 0)
            self.assertEqual(asked(at, kind, 0, 0), ())
            for place in (-1, 1, 10 ** 59):
                self.assertIs(refusal(at, kind, 0, place), NoPlace)

    def test_of_one(self):
        for kind in KINDS + GREAT_KINDS:
            if is_of_kind(kind, (1,)):
                self.assertEqual(asked(place_of, kind, (1,)), 0)
                self.assertEqual(asked(at, kind, 1, 0), (1,))
            else:
                self.assertIs(refusal(place_of, kind, (1,)), NoPlace)
                self.assertIs(refusal(at, kind, 1, 0), NoPlace)


if __name__ == "__main__":
    unittest.main()
