"""The place of a parting among those of its weight and kind, and the parting at a place, by counts part by part."""

from partrests.counting import counts
from partrests.errors import NoPlace
from partrests.kinds import is_of
from partrests.partings import weight
from partrests.rows import begun, put_on, taken_off


def row_with_next_off(rows, d):
    """The counts with no part above the next size, each part at least d greater than the next one."""
    size = len(rows)
    told = list(rows[-1])
    behind = rows[max(size - d, 0)]
    for n in range(size, len(told)):
        told[n] += behind[n - size]
    return told


def row_with_next(kind, rows):
    """The counts of partings of the kind with no part above len(rows), by those with none above each lesser size."""
    size = len(rows)
    word = kind[0]
    # The greatest part that most and box allow for isn't asked: no row goes beyond it.
    if word == "rests" and size % kind[1] not in kind[2]:
        return rows[-1]
    if word == "off":
        return row_with_next_off(rows, kind[1])
    row = put_on(rows[-1], size)
    if word == "times":
        return taken_off(row, kind[1] * size)
    if word in ("few", "box"):
        # Gauss's product, as counts has it: the last number of the kind is how many parts there may be.
        return taken_off(row, kind[-1] + size)
    return row


def kind_behind(kind):
    """The kind by which the parts behind the first one are counted: of at most so many parts one is gone."""
    if kind[0] in ("few", "box"):
        return kind[:-1] + (kind[-1] - 1,)
    return kind


def many_below(kind, n, part):
    """How many partings of n and the kind begin with a lesser part than this one; n is 1 or more."""
    rows = [begun(n)]
    while len(rows) < part:
        rows.append(row_with_next(kind, rows))
    return rows[-1][n]


def place_of(kind, parting):
    """How many partings of the same weight and the kind are less."""
    if not is_of(kind, parting):
        raise NoPlace("the parting isn't of the kind")
    place = 0
    left = weight(parting)
    for part in parting:
        # What is less here and alike ahead has a lesser part at this place, and none above that behind it.
        place += many_below(kind, left, part)
        left -= part
        kind = kind_behind(kind)
    return place


def first_part_at(kind, n, k):
    """The part that the k-th parting of n and the kind begins with, and how many begin with a lesser one."""
    rows = [begun(n)]
    while rows[-1][n] <= k:
        rows.append(row_with_next(kind, rows))
    return (len(rows) - 1, rows[-2][n])


def at(kind, n, k):
    """The parting of n and the kind that has the place k."""
    if k < 0 or k >= counts(kind, n)[n]:
        raise NoPlace("there is no parting at this place")
    told = []
    left = n
    while left > 0:
        part, many = first_part_at(kind, left, k)
        told.append(part)
        left -= part
        k -= many
        kind = kind_behind(kind)
    return tuple(told)
