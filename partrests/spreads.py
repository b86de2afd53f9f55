"""How the ranks and the marks of all partings of a number are spread and shared out."""

from partrests.counting import counts
from partrests.ranks import mark, rank


def value_of(which, parting):
    """The rank or the mark of a parting."""
    return rank(parting) if which == "rank" else mark(parting)


def many_with(which, value, everything):
    """How many partings have the value, of the last number, 2 or more, to which the counts of all go."""
    n = len(everything) - 1
    # Sums with changing signs: Dyson's for ranks runs along k * (3 * k - 1) // 2 and
    # k * (3 * k + 1) // 2, Garvan's for marks along k * (k - 1) // 2 and k * (k + 1) // 2.
    bend = 3 if which == "rank" else 1
    total = 0
    for k in range(1, n + 2):
        near = k * (bend * k - 1) // 2 + k * abs(value)
        far = near + k
        if near > n:
            break
        sign = 1 if k % 2 == 1 else -1
        total += sign * everything[n - near]
        if far <= n:
            total -= sign * everything[n - far]
    return total


def spread(which, n):
    """The rising pairs of a value and how many partings of n have it, of values that some has."""
    # The sums don't tell the rank of 0 nor the mark of 1, which have one parting each.
    if n < 2:
        return ((value_of(which, (1,) * n), 1),)
    everything = counts(("all",), n)
    told = [(value, many_with(which, value, everything)) for value in range(-n, n + 1)]
    return tuple([(value, many) for value, many in told if many > 0])


def shares(which, n, t):
    """How many partings of n have a value that leaves 0, 1, .. by t."""
    told = [0] * t
    for value, many in spread(which, n):
        told[value % t] += many
    return tuple(told)


def first_uneven(which, t, a, most):
    """The least n to most that leaves a by t of which the shares aren't all alike; None where there is none."""
    for n in range(a, most + 1, t):
        told = shares(which, n, t)
        if min(told) != max(told):
            return n
    return None
