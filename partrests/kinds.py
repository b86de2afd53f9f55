"""Kinds of partings: which there are, what is of them, and their lists."""

from partrests.listing import partings
from partrests.partings import sizes, turned
from partrests.wholes import is_within

MOST_SIZE = 600
LEAST_DIVISOR = 2
MOST_DIVISOR = 60


def is_size(thing):
    """Whether the thing may stand as k, l or d of a kind."""
    return is_within(thing, 1, MOST_SIZE)


def is_divisor(thing):
    """Whether the thing may stand as m of a kind."""
    return is_within(thing, LEAST_DIVISOR, MOST_DIVISOR)


def are_rests(thing, m):
    """Whether the thing is a rising tuple of one number or more from 0 to below m."""
    if not isinstance(thing, tuple) or len(thing) == 0:
        return False
    least = 0
    for rest in thing:
        if not is_within(rest, least, m - 1):
            return False
        least = rest + 1
    return True


def fits_word(word, given):
    """Whether the things given are those that a kind of this word has behind it."""
    if word in ("all", "own"):
        return len(given) == 0
    if word in ("most", "few", "off"):
        return len(given) == 1 and is_size(given[0])
    if word == "box":
        return len(given) == 2 and is_size(given[0]) and is_size(given[1])
    if word == "times":
        return len(given) == 1 and is_divisor(given[0])
    if word == "rests":
        return len(given) == 2 and is_divisor(given[0]) and are_rests(given[1], given[0])
    return False


def is_kind(thing):
    """Whether the thing, which may be anything, is a kind."""
    if not isinstance(thing, tuple) or len(thing) == 0:
        return False
    # Only a text is compared with the words: other things may not take it well.
    return isinstance(thing[0], str) and fits_word(thing[0], thing[1:])


def has_none_above(parting, k):
    """Whether no part is above k."""
    return len(parting) == 0 or parting[0] <= k


def falls_by(parting, d):
    """Whether each part but the last one is at least d greater than the next one."""
    for at in range(1, len(parting)):
        if parting[at - 1] - parting[at] < d:
            return False
    return True


def has_none_often(parting, m):
    """Whether no size stands m times or more."""
    return all([often < m for size, often in sizes(parting)])


def leaves_only(parting, m, rests):
    """Whether each part leaves by m one of the rests."""
    return all([part % m in rests for part in parting])


def is_of(kind, parting):
    """Whether the parting is of the kind."""
    word = kind[0]
    if word == "most":
        return has_none_above(parting, kind[1])
    if word == "few":
        return len(parting) <= kind[1]
    if word == "box":
        return has_none_above(parting, kind[1]) and len(parting) <= kind[2]
    if word == "off":
        return falls_by(parting, kind[1])
    if word == "times":
        return has_none_often(parting, kind[1])
    if word == "rests":
        return leaves_only(parting, kind[1], kind[2])
    if word == "own":
        return turned(parting) == parting
    return True


def listed(kind, n):
    """The rising tuple of all partings of n that are of the kind."""
    return tuple([parting for parting in partings(n) if is_of(kind, parting)])
