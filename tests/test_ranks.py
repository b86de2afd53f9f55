"""Point 15: rank, mark."""

import unittest

from reckoning import GREAT_PARTINGS, asked, mark_by_parts, rank_by_parts, small_partings

from partrests.ranks import mark, rank


class Rank(unittest.TestCase):
    def test_all_partings_of_small_numbers(self):
        for parting in small_partings(22) + list(GREAT_PARTINGS):
            self.assertEqual(asked(rank, parting), rank_by_parts(parting), parting)

    def test_the_edges(self):
        self.assertEqual(asked(rank, ()), 0)
        self.assertEqual(asked(rank, (1,)), 0)
        self.assertEqual(asked(rank, (2,)), 1)
        self.assertEqual(asked(rank, (1, 1)), -1)
        self.assertEqual(asked(rank, (300,)), 299)
        self.assertEqual(asked(rank, (1,) * 300), -299)
        self.assertEqual(asked(rank, (150, 150)), 148)
        self.assertEqual(asked(rank, (2,) * 150), -148)


class Mark(unittest.TestCase):
    def test_all_partings_of_small_numbers(self):
        for parting in small_partings(22) + list(GREAT_PARTINGS):
            self.assertEqual(asked(mark, parting), mark_by_parts(parting), parting)

    def test_the_edges(self):
        self.assertEqual(asked(mark, ()), 0)
        self.assertEqual(asked(mark, (1,)), -1)
        self.assertEqual(asked(mark, (2,)), 2)
        self.assertEqual(asked(mark, (1, 1)), -2)
        self.assertEqual(asked(mark, (2, 1)), 0)

    def test_no_part_is_one(self):
        self.assertEqual(asked(mark, (300,)), 300)
        self.assertEqual(asked(mark, (150, 150)), 150)
        self.assertEqual(asked(mark, (2,) * 150), 2)
        self.assertEqual(asked(mark, (3,) * 100), 3)

    def test_ones_alone(self):
        for many in (1, 2, 30, 299, 300):
            self.assertEqual(asked(mark, (1,) * many), -many)

    def test_parts_like_the_number_of_ones_are_not_greater(self):
        self.assertEqual(asked(mark, (4, 3, 2, 1, 1)), 0)
        self.assertEqual(asked(mark, (2, 2, 1, 1)), -2)
        self.assertEqual(asked(mark, (3, 3, 1, 1)), 0)
        self.assertEqual(asked(mark, (299, 1)), 0)
        self.assertEqual(asked(mark, (2,) * 149 + (1, 1)), -2)
        self.assertEqual(asked(mark, (3,) * 99 + (2, 1)), 99)


if __name__ == "__main__":
    unittest.main()
