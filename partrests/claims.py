"""Claims (m, a, q): that q parts the numbers of a row at its places a, a + m, .. as far as it goes."""

from partrests.errors import NotSo
from partrests.wholes import is_within

MOST_STEP = 600
LEAST_PARTER = 2
MOST_PARTER = 1000000


def is_claim(thing):
    """Whether the thing, which may be anything, is a claim."""
    if not isinstance(thing, tuple) or len(thing) != 3:
        return False
    m, a, q = thing
    return is_within(m, 1, MOST_STEP) and is_within(a, 0, m - 1) and is_within(q, LEAST_PARTER, MOST_PARTER)


def first_not(row, claim):
    """The first place of the claim at which it isn't so; None where it is so at all of them."""
    m, a, q = claim
    for place in range(a, len(row), m):
        if row[place] % q != 0:
            return place
    return None


def quotients(row, claim):
    """The row's numbers at the claim's places, each parted by q."""
    place = first_not(row, claim)
    if place is not None:
        raise NotSo(place)
    m, a, q = claim
    return tuple([number // q for number in row[a::m]])


def comes_of_one(told, m, a):
    """Whether the places a, a + m, .. all are places of one of the pairs told."""
    return any([m % step == 0 and a % step == rest for step, rest in told])


def claims(row, most, q):
    """The rising pairs (m, a), m to most, of claims by q that are so and come of no claim with a lesser m."""
    told = []
    for m in range(1, most + 1):
        # Three places or more: the third one, a + 2 * m, lies in the row.
        for a in range(min(m, len(row) - 2 * m)):
            # The least m of which a claim comes comes of none itself and has more places, so it is told by now.
            if not comes_of_one(told, m, a) and first_not(row, (m, a, q)) is None:
                told.append((m, a))
    return tuple(told)
