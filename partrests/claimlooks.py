"""Looking at what is handed in to show a claim."""

from partrests.claims import first_not, quotients
from partrests.wholes import is_whole


def shows_claim(row, claim, thing):
    """Whether the thing, which may be anything, is the tuple of the claim's quotients of the row."""
    if first_not(row, claim) is not None:
        return False
    asked_for = quotients(row, claim)
    if not isinstance(thing, tuple) or len(thing) != len(asked_for):
        return False
    # Only a whole number is compared: a truth is like one, and other things may not take it well.
    return all([is_whole(number) and number == quotient for number, quotient in zip(thing, asked_for)])
