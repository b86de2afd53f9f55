"""Partings: tuples of whole numbers from 1, none less than the next one."""

from partrests.wholes import is_whole


def is_parting(thing):
    """Whether the thing, which may be anything, is a parting of some weight."""
    if not isinstance(thing, tuple):
        return False
    for part in thing:
        if not is_whole(part) or part < 1:
            return False
    for at in range(1, len(thing)):
        if thing[at - 1] < thing[at]:
            return False
    return True


def weight(parting):
    """All parts together."""
    return sum(parting)


def turned(parting):
    """The parting whose i-th part is how many parts are i or more."""
    told = []
    many = len(parting)
    greatest = parting[0] if parting else 0
    for size in range(1, greatest + 1):
        # The parts fall, so those that are too small all stand at the end.
        while parting[many - 1] < size:
            many -= 1
        told.append(many)
    return tuple(told)


def sizes(parting):
    """The pairs of a size and how often it stands, sizes falling."""
    told = []
    for part in parting:
        if told and told[-1][0] == part:
            told[-1] = (part, told[-1][1] + 1)
        else:
            told.append((part, 1))
    return tuple(told)


def both(one, other):
    """The parting of all parts of both."""
    return tuple(sorted(one + other, reverse=True))


def less(one, other):
    """One with each of the other's parts taken off once; None where one hasn't so many."""
    left = list(one)
    for part in other:
        if part not in left:
            return None
        left.remove(part)
    return tuple(left)
