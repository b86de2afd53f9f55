"""Vectors told by frames over the round of partings of c, and back: t is 5, 7 or 11, c 4, 5 or 6."""

from partrests.cores import size_of, vector
from partrests.errors import NoTurn

ROUNDS = {
    5: ((4,), (2, 2), (1, 1, 1, 1), (2, 1, 1), (3, 1)),
    7: ((5,), (3, 1, 1), (1, 1, 1, 1, 1), (3, 2), (2, 1, 1, 1), (4, 1), (2, 2, 1)),
    11: (
        (6,), (2, 2, 2), (3, 1, 1, 1), (4, 2), (2, 1, 1, 1, 1), (3, 2, 1), (5, 1), (2, 2, 1, 1), (4, 1, 1), (3, 3),
        (1, 1, 1, 1, 1, 1),
    ),
}


def round_of(t):
    """The partings of c, in the order of their turning."""
    return ROUNDS[t]


def weight_of_round(t):
    """The weight c of each parting of the round."""
    return sum(ROUNDS[t][0])


def vectors_of_round(t):
    """The list of the vectors of the round's partings."""
    return [vector(parting, t) for parting in ROUNDS[t]]


def vector_by(t, frame):
    """The vectors of the round's partings, each as often as the frame tells, together."""
    told = [0] * t
    for often, numbers in zip(frame, vectors_of_round(t)):
        for rest in range(t):
            told[rest] += often * numbers[rest]
    return tuple(told)


def sum_of_products(one, other):
    """The numbers at like places, one times the other, all together."""
    return sum([left * right for left, right in zip(one, other)])


def bends_of(t, numbers):
    """For each place of the frame twice its number less both beside it, round, of a vector that has a frame."""
    places = list(range(t))
    beyond = 2 * (t - weight_of_round(t))
    told = []
    for beside in vectors_of_round(t):
        # The size is told by squares of the vector's numbers, and by squares of the frame's. What it has of both
        # vectors multiplied is, the one way, t times their products and both sums by places, the other way
        # t times the bend, less what is beyond it.
        sums = sum_of_products(places, numbers) + sum_of_products(places, beside)
        told.append(sum_of_products(numbers, beside) + (sums + beyond) // t)
    return told


def by_rises(rises, total):
    """The numbers, one more than the rises between each and the next one, that are the total together."""
    told = [0]
    for rise in rises:
        told.append(told[-1] + rise)
    first = (total - sum(told)) // len(told)
    return [first + number for number in told]


def frame_of(t, numbers):
    """The one frame by which the vector is told."""
    if size_of(numbers) % t != weight_of_round(t):
        raise NoTurn("the size of the vector leaves another rest than that of the round")
    # The rises of the frame, round, are 0 together; each but the first one is less than that ahead by a bend.
    rises = by_rises([-bend for bend in bends_of(t, numbers)[1:]], 0)
    return tuple(by_rises(rises[:-1], 1))
