"""Rows: tuples of one whole number or more, numbered by their places from 0."""


def times(one, other):
    """The product of both rows, as long as the shorter one."""
    told = []
    for n in range(min(len(one), len(other))):
        told.append(sum([one[i] * other[n - i] for i in range(n + 1)]))
    return tuple(told)


def undone(row):
    """The row, as long, that times this one, which begins with 1, is 1 and noughts."""
    told = [1]
    for n in range(1, len(row)):
        told.append(-sum([row[i] * told[n - i] for i in range(1, n + 1)]))
    return tuple(told)


def begun(most):
    """The list of 1 and noughts that goes to the place most."""
    return [1] + [0] * most


def put_on(row, size):
    """The list with a size let in as often as one likes: each place, rising, gets what stands size ahead of it."""
    told = list(row)
    for n in range(size, len(row)):
        told[n] += told[n - size]
    return told


def taken_off(row, size):
    """The list with put_on by this size undone: each place, falling, loses what stands size ahead of it."""
    told = list(row)
    for n in range(len(row) - 1, size - 1, -1):
        told[n] -= told[n - size]
    return told
