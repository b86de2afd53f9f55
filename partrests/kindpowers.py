"""The powers whose product is the counts of a kind."""


def in_box_at(k, l, size):
    """The power of a size for the partings with no part above k and at most l parts."""
    # Gauss's product puts on each size to k and takes off the k sizes that follow l.
    return int(size <= k) - int(l < size <= l + k)


def own_at(size):
    """The power of a size for the partings that are the same turned."""
    # Folded they have unlike odd parts: each odd size is put on, and its double taken off.
    if size % 2 == 1:
        return 1
    return -1 if size % 4 == 2 else 0


def power_at(kind, size):
    """The power of a size whose product with those of all other sizes is the counts of the kind."""
    word = kind[0]
    if word == "all":
        return 1
    if word == "box":
        return in_box_at(kind[1], kind[2], size)
    if word == "times":
        return int(size % kind[1] != 0)
    if word == "rests":
        return int(size % kind[1] in kind[2])
    if word == "own":
        return own_at(size)
    # Turned, those of at most k parts are those with no part above k.
    return int(size <= kind[1])


def of_like_counts(kind):
    """A kind with as many partings of each number, but none of off; None of off where d is above 2."""
    if kind[0] != "off":
        return kind
    # Euler's kind of unlike parts is led to odd ones, that of Rogers and Ramanujan to rests by 5.
    if kind[1] == 1:
        return ("times", 2)
    if kind[1] == 2:
        return ("rests", 5, (1, 4))
    return None


def powers_of(kind, most):
    """The powers of the sizes 1, 2, .. most whose product is the counts of the kind; None of off where d is above 2."""
    like = of_like_counts(kind)
    if like is None:
        return None
    return tuple([power_at(like, size) for size in range(1, most + 1)])
