"""Point 25: merged, split, paired, folded, unfolded."""

import unittest

from reckoning import GREAT_PARTINGS, PARTINGS, asked, is_own, partings_of_great, refusal, small_partings

from partrests.errors import NoList
from partrests.pairing import folded, merged, paired, split, unfolded

SOME_M = (2, 3, 4, 5, 6, 7, 10, 29, 30, 59, 60)

GREAT = list(GREAT_PARTINGS) + [parting for n in (150, 299, 300) for parting in partings_of_great(n)]


def falling(parts):
    return tuple(sorted(parts, reverse=True))


def merged_by_counts(parting, m, last):
    """merged, one exchange at a time, of the greatest size or of the least one that stands often enough."""
    parts = list(parting)
    often = [size for size in sorted(set(parts)) if parts.count(size) >= m]
    while often:
        size = often[-1] if last else often[0]
        for time in range(m):
            parts.remove(size)
        parts.append(m * size)
        often = [size for size in sorted(set(parts)) if parts.count(size) >= m]
    return falling(parts)


def split_by_parts(parting, m, last):
    """split, one exchange at a time, of the greatest part or of the least one that m parts."""
    parts = list(parting)
    found = [part for part in sorted(parts) if part % m == 0]
    while found:
        part = found[-1] if last else found[0]
        parts.remove(part)
        parts += [part // m] * m
        found = [part for part in sorted(parts) if part % m == 0]
    return falling(parts)


def are_parted(parting, m):
    return any(part // m * m == part for part in parting)


def is_often(parting, m):
    return any(parting.count(part) >= m for part in parting)


def are_unlike(parting):
    return len(set(parting)) == len(parting)


def paired_by_cells(parting):
    """paired, by cells of the drawing: the lowest row is laid along the slope, or the slope below as a row."""
    if not parting:
        return None
    cells = {(row, at) for row, part in enumerate(parting) for at in range(part)}
    lowest = [cell for cell in cells if cell[0] == len(parting) - 1]
    slope = []
    at = (0, parting[0] - 1)
    while at in cells and (at[0], at[1] + 1) not in cells:
        slope.append(at)
        at = (at[0] + 1, at[1] - 1)
    meet = len(set(lowest) & set(slope))
    if len(lowest) <= len(slope):
        if meet and len(lowest) == len(slope):
            return None
        cells -= set(lowest)
        cells |= {(row, parting[row]) for row in range(len(lowest))}
    else:
        if meet and len(lowest) == len(slope) + 1:
            return None
        cells -= set(slope)
        cells |= {(len(parting), at) for at in range(len(slope))}
    rows = max(row for row, at in cells) + 1
    return tuple(len([cell for cell in cells if cell[0] == row]) for row in range(rows))


def folded_by_cells(parting):
    """folded, by the cells that stand at each step of the slope down from the first one."""
    cells = {(row, at) for row, part in enumerate(parting) for at in range(part)}
    told = []
    while (len(told), len(told)) in cells:
        told.append(len([cell for cell in cells if min(cell) == len(told)]))
    return tuple(told)


def unfolded_by_cells(parting):
    """What is folded to it, each part laid half along a row, half along a column."""
    cells = set()
    for step, part in enumerate(parting):
        for far in range((part + 1) // 2):
            cells |= {(step, step + far), (step + far, step)}
    rows = max([row for row, at in cells], default=-1) + 1
    return tuple(len([cell for cell in cells if cell[0] == row]) for row in range(rows))


def stairs(many, least):
    """So many parts that fall by one each down to the least one."""
    return tuple(range(least + many - 1, least - 1, -1))


class Merged(unittest.TestCase):
    def looked_at(self, parting, m):
        if are_parted(parting, m):
            self.assertIs(refusal(merged, parting, m), NoList, (parting, m))
            return
        told = asked(merged, parting, m)
        self.assertEqual(told, merged_by_counts(parting, m, True), (parting, m))
        self.assertEqual(told, merged_by_counts(parting, m, False), (parting, m))
        self.assertFalse(is_often(told, m))
        self.assertEqual(asked(split, told, m), parting)

    def test_by_counts_and_back(self):
        for parting in small_partings(15):
            for m in SOME_M:
                self.looked_at(parting, m)

    def test_great_partings(self):
        for parting in GREAT:
            for m in SOME_M:
                self.looked_at(parting, m)

    def test_the_edges(self):
        for m in SOME_M:
            self.assertEqual(asked(merged, (), m), ())
            self.assertEqual(asked(merged, (1,) * m, m), (m,))
            self.assertEqual(asked(merged, (1,) * (m - 1), m), (1,) * (m - 1))
            self.assertEqual(asked(merged, (1,) * (m + 1), m), (m, 1))
            self.assertEqual(asked(merged, (m + 1,) + (1,) * m, m), (m + 1, m))
            self.assertIs(refusal(merged, (m,), m), NoList)
            self.assertIs(refusal(merged, (m + 1, m, 1), m), NoList)
            self.assertIs(refusal(merged, (5 * m,) + (1,) * m, m), NoList)
        self.assertEqual(asked(merged, (1,) * 300, 2), (256, 32, 8, 4))
        self.assertEqual(asked(merged, (1,) * 300, 60), (60,) * 5)
        self.assertEqual(asked(merged, (5,) * 60, 60), (300,))

    def test_one_list_is_led_to_the_other_each_once(self):
        for m in (2, 3, 5, 60):
            for n in range(19):
                from_there = [parting for parting in PARTINGS[n] if not are_parted(parting, m)]
                to_there = [parting for parting in PARTINGS[n] if not is_often(parting, m)]
                self.assertEqual(sorted(merged(parting, m) for parting in from_there), to_there)


class Split(unittest.TestCase):
    def looked_at(self, parting, m):
        if is_often(parting, m):
            self.assertIs(refusal(split, parting, m), NoList, (parting, m))
            return
        told = asked(split, parting, m)
        self.assertEqual(told, split_by_parts(parting, m, True), (parting, m))
        self.assertEqual(told, split_by_parts(parting, m, False), (parting, m))
        self.assertFalse(are_parted(told, m))
        self.assertEqual(asked(merged, told, m), parting)

    def test_by_parts_and_back(self):
        for parting in small_partings(15):
            for m in SOME_M:
                self.looked_at(parting, m)

    def test_great_partings(self):
        for parting in GREAT:
            for m in SOME_M:
                self.looked_at(parting, m)

    def test_the_edges(self):
        for m in SOME_M:
            self.assertEqual(asked(split, (), m), ())
            self.assertEqual(asked(split, (m,), m), (1,) * m)
            self.assertEqual(asked(split, (1,) * (m - 1), m), (1,) * (m - 1))
            self.assertIs(refusal(split, (1,) * m, m), NoList)
            self.assertIs(refusal(split, (m,) + (1,) * m, m), NoList)
            self.assertIs(refusal(split, (2,) * (m + 1), m), NoList)
        self.assertEqual(asked(split, (256, 32, 8, 4), 2), (1,) * 300)
        self.assertEqual(asked(split, (300,), 60), (5,) * 60)
        self.assertEqual(asked(split, (60,) * 5, 60), (1,) * 300)


class Paired(unittest.TestCase):
    def looked_at(self, parting):
        if not are_unlike(parting):
            self.assertIs(refusal(paired, parting), NoList, parting)
            return None
        told = asked(paired, parting)
        self.assertEqual(told, paired_by_cells(parting), parting)
        if told is not None:
            self.assertTrue(are_unlike(told))
            self.assertEqual(list(told), sorted(told, reverse=True))
            self.assertEqual(sum(told), sum(parting))
            self.assertEqual(abs(len(told) - len(parting)), 1)
            self.assertEqual(asked(paired, told), parting)
        return told

    def test_by_its_rule_and_paired_again(self):
        for parting in small_partings(22):
            self.looked_at(parting)

    def test_all_unlike_ones_of_30(self):
        for parting in PARTINGS[30]:
            if are_unlike(parting):
                self.looked_at(parting)

    def test_great_partings(self):
        for parting in GREAT:
            self.looked_at(parting)

    def test_one_at_most_of_a_number_has_none(self):
        corners = {k * (3 * k + way) // 2 for k in range(6) for way in (-1, 1)}
        for n in range(31):
            left = [parting for parting in PARTINGS[n] if are_unlike(parting) and paired(parting) is None]
            self.assertEqual(len(left), int(n in corners), n)

    def test_stairs_down_to_as_many_one_more_one_fewer(self):
        for many in range(1, 14):
            self.assertIsNone(asked(paired, stairs(many, many)))
            self.assertIsNone(asked(paired, stairs(many, many + 1)))
            for least in (many - 1, many + 2, many + 3):
                if least > 0 and sum(stairs(many, least)) <= 300:
                    self.assertIsNotNone(self.looked_at(stairs(many, least)))

    def test_stairs_with_one_step_of_two(self):
        for many in range(2, 12):
            for least in (many - 2, many - 1, many, many + 1, many + 2):
                for below in range(1, many):
                    if least > 0:
                        whole = stairs(many, least)
                        broken = tuple(part + (at < many - below) for at, part in enumerate(whole))
                        if sum(broken) <= 300:
                            self.assertIsNotNone(self.looked_at(broken), broken)

    def test_by_hand(self):
        self.assertIsNone(asked(paired, ()))
        self.assertIsNone(asked(paired, (1,)))
        self.assertIsNone(asked(paired, (2,)))
        self.assertEqual(asked(paired, (3,)), (2, 1))
        self.assertEqual(asked(paired, (2, 1)), (3,))
        self.assertIsNone(asked(paired, (3, 2)))
        self.assertIsNone(asked(paired, (4, 3)))
        self.assertEqual(asked(paired, (5, 4)), (4, 3, 2))
        self.assertEqual(asked(paired, (7, 6, 4, 3, 2)), (8, 7, 4, 3))
        self.assertEqual(asked(paired, (300,)), (299, 1))

    def test_alike_parts_are_refused(self):
        for parting in ((1, 1), (5, 5), (3, 2, 2), (4, 4, 1), (9, 5, 3, 3, 1), (150, 150), (1,) * 300):
            self.assertIs(refusal(paired, parting), NoList)


class Folded(unittest.TestCase):
    def looked_at(self, parting):
        if not is_own(parting):
            self.assertIs(refusal(folded, parting), NoList, parting)
            return
        told = asked(folded, parting)
        self.assertEqual(told, folded_by_cells(parting), parting)
        self.assertTrue(are_unlike(told) and all(part % 2 == 1 for part in told))
        self.assertEqual(sum(told), sum(parting))
        self.assertEqual(asked(unfolded, told), parting)

    def test_by_cells_and_back(self):
        for parting in small_partings(20):
            self.looked_at(parting)

    def test_great_partings(self):
        for parting in GREAT + [(150,) + (1,) * 149, (17,) * 17, (16,) * 16, stairs(24, 1)]:
            self.looked_at(parting)

    def test_by_hand(self):
        self.assertEqual(asked(folded, ()), ())
        self.assertEqual(asked(folded, (1,)), (1,))
        self.assertEqual(asked(folded, (2, 1)), (3,))
        self.assertEqual(asked(folded, (2, 2)), (3, 1))
        self.assertEqual(asked(folded, (4, 3, 2, 1)), (7, 3))
        self.assertEqual(asked(folded, (150,) + (1,) * 149), (299,))
        for parting in ((2,), (1, 1), (3, 1), (2, 2, 1), (300,), (1,) * 300):
            self.assertIs(refusal(folded, parting), NoList)


class Unfolded(unittest.TestCase):
    def looked_at(self, parting):
        if not are_unlike(parting) or any(part % 2 == 0 for part in parting):
            self.assertIs(refusal(unfolded, parting), NoList, parting)
            return
        told = asked(unfolded, parting)
        self.assertEqual(told, unfolded_by_cells(parting), parting)
        self.assertTrue(is_own(told))
        self.assertEqual(sum(told), sum(parting))
        self.assertEqual(asked(folded, told), parting)

    def test_by_cells_and_back(self):
        for parting in small_partings(20):
            self.looked_at(parting)

    def test_all_of_30(self):
        for parting in PARTINGS[30]:
            self.looked_at(parting)

    def test_great_partings(self):
        odd_stairs = tuple(range(33, 0, -2))
        some = [odd_stairs, odd_stairs[:-1], odd_stairs[1:], (299,), (299, 1), (151, 149), (101, 99, 97, 3)]
        for parting in GREAT + some:
            self.looked_at(parting)

    def test_one_list_is_led_to_the_other_each_once(self):
        for n in range(26):
            unlike = [parting for parting in PARTINGS[n] if are_unlike(parting)]
            from_there = [parting for parting in unlike if all(part % 2 == 1 for part in parting)]
            to_there = [parting for parting in PARTINGS[n] if is_own(parting)]
            self.assertEqual(sorted(unfolded(parting) for parting in from_there), to_there)

    def test_by_hand(self):
        self.assertEqual(asked(unfolded, ()), ())
        self.assertEqual(asked(unfolded, (1,)), (1,))
        self.assertEqual(asked(unfolded, (5, 1)), (3, 2, 1))
        self.assertEqual(asked(unfolded, (299, 1)), (150, 2) + (1,) * 148)
        for parting in ((2,), (1, 1), (3, 3), (3, 2), (5, 3, 3), (300,), (4, 1)):
            self.assertIs(refusal(unfolded, parting), NoList)


if __name__ == "__main__":
    unittest.main()
