"""Point 17: hooks."""

import math
import unittest

from reckoning import GREAT_PARTINGS, asked, small_partings

from partrests.hooks import hooks


def hooks_by_words(parting):
    """hooks, place by place."""
    told = []
    for at, part in enumerate(parting):
        told.append(tuple(part - j + sum(behind > j for behind in parting[at + 1:]) for j in range(part)))
    return tuple(told)


class Hooks(unittest.TestCase):
    def test_place_by_place(self):
        for parting in small_partings(18) + list(GREAT_PARTINGS):
            self.assertEqual(asked(hooks, parting), hooks_by_words(parting), parting)

    def test_the_edges(self):
        self.assertEqual(asked(hooks, ()), ())
        self.assertEqual(asked(hooks, (1,)), ((1,),))
        self.assertEqual(asked(hooks, (300,)), (tuple(range(300, 0, -1)),))
        self.assertEqual(asked(hooks, (1,) * 300), tuple((number,) for number in range(300, 0, -1)))

    def test_by_hand(self):
        self.assertEqual(asked(hooks, (4, 3, 1)), ((6, 4, 3, 1), (4, 2, 1), (1,)))
        self.assertEqual(asked(hooks, (2, 2)), ((3, 2), (2, 1)))
        self.assertEqual(asked(hooks, (3, 1, 1)), ((5, 2, 1), (2,), (1,)))

    def test_fillings_counted_by_hooks(self):
        # How often a parting comes by ones put to it, one by one, is n! by all its hooks.
        ways = {(): 1}
        for n in range(1, 13):
            grown = {}
            for parting, many in ways.items():
                for at in range(len(parting) + 1):
                    parts = list(parting) + [0]
                    parts[at] += 1
                    if at == 0 or parts[at - 1] >= parts[at]:
                        key = tuple(part for part in parts if part)
                        grown[key] = grown.get(key, 0) + many
            ways = grown
            for parting, many in ways.items():
                product = math.prod(hook for row in hooks(parting) for hook in row)
                self.assertEqual(math.factorial(n), many * product, parting)


if __name__ == "__main__":
    unittest.main()
