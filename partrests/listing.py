"""The list of all partings of a number."""


def partings_below(n, most):
    """The rising list of all partings of n that have no part above most."""
    if n == 0:
        return [()]
    told = []
    for first in range(1, min(n, most) + 1):
        for behind in partings_below(n - first, first):
            told.append((first,) + behind)
    return told


def partings(n):
    """The rising tuple of all partings of weight n."""
    return tuple(partings_below(n, n))
