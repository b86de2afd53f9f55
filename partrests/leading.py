"""Partings without the ones of paired events led to those without the others, step by step."""

from partrests.errors import NoList, NoPair
from partrests.events import are_events, standing
from partrests.partings import both, less, weight


def are_paired(ones, others):
    """Whether both, which may be anything, are events, as many, and of like weights number by number."""
    if not are_events(ones) or not are_events(others):
        return False
    return [weight(event) for event in ones] == [weight(event) for event in others]


def led(ones, others, parting):
    """What is left when none of the others stands any more, and the numbers of those that were exchanged."""
    if not are_paired(ones, others):
        raise NoPair("these aren't events, as many and of like weights")
    if standing(ones, parting):
        raise NoList("one of the events that are put in stands in the parting")
    told = parting
    walk = []
    found = standing(others, told)
    while found:
        told = both(less(told, others[found[0]]), ones[found[0]])
        walk.append(found[0])
        found = standing(others, told)
    return (told, tuple(walk))
