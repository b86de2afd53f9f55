"""How many partings of each number are of a kind."""

from partrests.rows import begun, put_on, taken_off


def of_sizes(some, most):
    """Counts of the partings whose parts are all of some sizes."""
    row = begun(most)
    for size in some:
        row = put_on(row, size)
    return row


def of_sizes_below(some, m, most):
    """Counts of the partings whose parts are all of some sizes, each fewer than m times."""
    row = begun(most)
    for size in some:
        row = taken_off(put_on(row, size), m * size)
    return row


def in_box(k, l, most):
    """Counts of the partings with no part above k and at most l parts."""
    row = begun(most)
    # Gauss's product: going from i - 1 to i as the greatest part puts on i and takes off l + i.
    for i in range(1, min(k, most) + 1):
        row = taken_off(put_on(row, i), l + i)
    return row


def falling_by(d, most):
    """Counts of the partings in which each part is at least d greater than the next one."""
    told = [0] * (most + 1)
    row = begun(most)
    many = 0
    least = 0
    # The least such parting of so many parts, taken off part by part, leaves any parting of
    # at most as many parts; turned, these are the partings with no part above many.
    while least <= most:
        for n in range(least, most + 1):
            told[n] += row[n - least]
        least += 1 + d * many
        many += 1
        row = put_on(row, many)
    return told


def counted(kind, most):
    """What counts tells, as a list."""
    word = kind[0]
    if word == "box":
        return in_box(kind[1], kind[2], most)
    if word == "off":
        return falling_by(kind[1], most)
    if word == "own":
        # Folded, they are the partings of unlike odd parts.
        return of_sizes_below(list(range(1, most + 1, 2)), 2, most)
    if word == "times":
        return of_sizes_below(list(range(1, most + 1)), kind[1], most)
    if word == "rests":
        return of_sizes([size for size in range(1, most + 1) if size % kind[1] in kind[2]], most)
    if word == "all":
        return of_sizes(list(range(1, most + 1)), most)
    # Turned, those of at most k parts are those with no part above k.
    return of_sizes(list(range(1, min(kind[1], most) + 1)), most)


def counts(kind, most):
    """How many partings of 0, 1, .. most are of the kind."""
    return tuple(counted(kind, most))
