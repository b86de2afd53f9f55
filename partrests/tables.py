"""Partings of a number counted by how many parts, by their squares, and the corners."""

from partrests.rows import begun, put_on


def by_number(n):
    """How many partings of n have 0, 1, .. n parts."""
    row = begun(n)
    told = [row[n]]
    for many in range(1, n + 1):
        row = put_on(row, many)
        # One taken off each of so many parts leaves at most so many: turned, none above many.
        told.append(row[n - many])
    return tuple(told)


def by_square(n):
    """How many partings of n have the square 0, 1, .. to the greatest that some has."""
    row = begun(n)
    told = [row[n]]
    side = 1
    while side * side <= n:
        # Right of the square and below it lies a parting each, with none above its side.
        row = put_on(put_on(row, side), side)
        told.append(row[n - side * side])
        side += 1
    return tuple(told)


def corners(most):
    """The rising pairs of a corner's place, to most, and its sign."""
    told = []
    k = 0
    near = 0
    while near <= most:
        sign = 1 if k % 2 == 0 else -1
        told.append((near, sign))
        far = near + k
        # Of k 0 both corners are one place, which is told once.
        if k > 0 and far <= most:
            told.append((far, sign))
        k += 1
        near = k * (3 * k - 1) // 2
    return tuple(told)
