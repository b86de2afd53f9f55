"""Events: partings that share no size, which stand in a parting or not, and counts of those where none stands."""

from partrests.counting import counts
from partrests.partings import is_parting, less, sizes, weight
from partrests.rows import taken_off

MOST_EVENTS = 12


def share_no_size(events):
    """Whether no size stands in two of these partings."""
    met = [size for event in events for size, often in sizes(event)]
    return len(set(met)) == len(met)


def are_events(thing):
    """Whether the thing, which may be anything, is a tuple of events."""
    if not isinstance(thing, tuple) or len(thing) > MOST_EVENTS:
        return False
    if not all([is_parting(event) for event in thing]):
        return False
    return () not in thing and share_no_size(thing)


def stands(event, parting):
    """Whether the event stands in the parting."""
    return less(parting, event) is not None


def standing(events, parting):
    """The rising numbers, from 0, of the events that stand in the parting."""
    return tuple([number for number, event in enumerate(events) if stands(event, parting)])


def sieved(events, most):
    """In how many partings of 0, 1, .. most none of the events stands."""
    row = counts(("all",), most)
    # Events share no size, so those where one more stands are as many as there are of a weight less by its own.
    for event in events:
        row = taken_off(row, weight(event))
    return tuple(row)
