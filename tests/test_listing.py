"""Point 5: partings."""

import unittest

from reckoning import PARTINGS, asked

from partrests.listing import partings


class Partings(unittest.TestCase):
    def test_against_all_grown_one_by_one(self):
        for n in range(31):
            self.assertEqual(asked(partings, n), PARTINGS[n], n)

    def test_rising_each_once(self):
        for n in range(31):
            told = partings(n)
            for one, another in zip(told, told[1:]):
                self.assertLess(one, another)

    def test_the_edges(self):
        self.assertEqual(asked(partings, 0), ((),))
        self.assertEqual(asked(partings, 1), ((1,),))
        self.assertEqual(asked(partings, 4), ((1, 1, 1, 1), (2, 1, 1), (2, 2), (3, 1), (4,)))
        told = asked(partings, 30)
        self.assertEqual(len(told), 5604)
        self.assertEqual(told[0], (1,) * 30)
        self.assertEqual(told[-1], (30,))

    def test_somewhat_beyond_nothing_is_refused(self):
        self.assertEqual(len(partings(33)), 10143)


if __name__ == "__main__":
    unittest.main()
