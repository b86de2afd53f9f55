"""Asking of anything whether it is a whole number, and one between bounds."""


def is_whole(thing):
    """Whether the thing is an int that is no truth."""
    return isinstance(thing, int) and not isinstance(thing, bool)


def is_within(thing, least, most):
    """Whether the thing is a whole number from least to most, both counted."""
    return is_whole(thing) and least <= thing <= most
