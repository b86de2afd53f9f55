"""Rows as products by powers of the sizes 1, 2, .., and by their own steps."""

from partrests.errors import NoRow
from partrests.rows import begun, put_on, taken_off


def product(powers):
    """The row, longer by one, to which the powers of the sizes 1, 2, .. lead."""
    row = begun(len(powers))
    for size, power in enumerate(powers, start=1):
        for turn in range(power):
            row = put_on(row, size)
        for turn in range(-power):
            row = taken_off(row, size)
    return tuple(row)


def steps_of(powers):
    """As many numbers: for j the sum of d times the power of d, over all d that part j."""
    many = len(powers)
    steps = [0] * many
    for d in range(1, many + 1):
        for j in range(d, many + 1, d):
            steps[j - 1] += d * powers[d - 1]
    return tuple(steps)


def by_steps(steps):
    """The row, longer by one, in which n times the number at n comes of the steps and the numbers ahead."""
    row = [1]
    for n in range(1, len(steps) + 1):
        total = sum([steps[j - 1] * row[n - j] for j in range(1, n + 1)])
        if total % n != 0:
            raise NoRow("some number of the row isn't whole")
        row.append(total // n)
    return tuple(row)


def steps_found(row):
    """The list of the steps by which the row, which begins with 1, comes."""
    steps = []
    for n in range(1, len(row)):
        known = sum([steps[j - 1] * row[n - j] for j in range(1, n)])
        steps.append(n * row[n] - known)
    return steps


def powers_found(row):
    """The powers whose product the row, which begins with 1, is."""
    # Steps, not products: a power may be far too great to be taken off one by one.
    left = steps_found(row)
    many = len(left)
    powers = []
    for d in range(1, many + 1):
        # What the powers of lesser sizes bring is off by now, so d parts what is left.
        power = left[d - 1] // d
        powers.append(power)
        for j in range(d, many + 1, d):
            left[j - 1] -= d * power
    return tuple(powers)
