"""The refusals: their names, what they stand under, and what they bear."""

import unittest

from partrests import errors

NAMES = ("NoRow", "NoCore", "NoTurn", "NoPair", "NoList", "NoPlace", "NoText", "NoLine")


class Refusals(unittest.TestCase):
    def test_the_one_above_is_a_value_error(self):
        self.assertEqual(errors.PartError.__bases__, (ValueError,))

    def test_each_stands_straight_under_it(self):
        for name in NAMES + ("NotSo",):
            with self.subTest(name=name):
                self.assertEqual(getattr(errors, name).__bases__, (errors.PartError,))

    def test_none_stands_under_another_one(self):
        made = [getattr(errors, name) for name in NAMES + ("NotSo",)]
        self.assertEqual(len(set(made)), 9)
        for one in made:
            for other in made:
                self.assertEqual(issubclass(one, other), one is other)

    def test_each_is_made_with_a_text(self):
        for name in NAMES:
            with self.subTest(name=name):
                with self.assertRaises(errors.PartError) as kept:
                    raise getattr(errors, name)("some words")
                self.assertIs(type(kept.exception), getattr(errors, name))
                self.assertEqual(str(kept.exception), "some words")

    def test_not_so_bears_its_place(self):
        for place in (0, 1, 7, 600, 10 ** 5000):
            made = errors.NotSo(place)
            self.assertEqual(made.place, place)
            self.assertIs(type(made.place), int)
            self.assertIsInstance(str(made), str)

    def test_not_so_keeps_its_place_when_raised(self):
        with self.assertRaises(ValueError) as kept:
            raise errors.NotSo(12)
        self.assertEqual(kept.exception.place, 12)

    def test_two_of_them_keep_their_own_places(self):
        one, other = errors.NotSo(3), errors.NotSo(4)
        self.assertEqual((one.place, other.place), (3, 4))


if __name__ == "__main__":
    unittest.main()
