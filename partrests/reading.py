"""Partings, kinds and drawings read from their texts."""

from partrests.errors import NoText
from partrests.kinds import is_kind
from partrests.partings import is_parting

MOST_SIGNS = 2000
MOST_FIGURES = 6
FIGURES = "0123456789"


def is_text(thing):
    """Whether the thing, which may be anything, is a text that isn't too long."""
    return isinstance(thing, str) and len(thing) <= MOST_SIGNS


def is_number(text):
    """Whether the text is a number as it is written: by figures, no 0 ahead but in 0."""
    if len(text) == 0 or len(text) > MOST_FIGURES:
        return False
    # Not isdigit: that knows figures of other scripts, too.
    if not all([sign in FIGURES for sign in text]):
        return False
    return text[0] != "0" or text == "0"


def numbers_read(words):
    """The numbers that the words are, as a tuple."""
    if not all([is_number(word) for word in words]):
        raise NoText("a number isn't written as numbers are")
    return tuple([int(word) for word in words])


def read_parting(thing):
    """The parting that is so written."""
    if not is_text(thing):
        raise NoText("this is no text, or too long")
    if thing == "-":
        return ()
    parting = numbers_read(thing.split("+"))
    if not is_parting(parting):
        raise NoText("these numbers aren't the parts of a parting")
    return parting


def kind_of_words(words):
    """What the words tell as a kind, if it is one."""
    if len(words) == 3 and words[0] == "rests":
        return ("rests",) + numbers_read(words[1:2]) + (numbers_read(words[2].split(",")),)
    return (words[0],) + numbers_read(words[1:])


def read_kind(thing):
    """The kind that is so written."""
    if not is_text(thing):
        raise NoText("this is no text, or too long")
    kind = kind_of_words(thing.split(" "))
    if not is_kind(kind):
        raise NoText("the words aren't those of a kind")
    return kind


def read_drawn(thing):
    """The parting that is so drawn."""
    if not is_text(thing):
        raise NoText("this is no text, or too long")
    if thing == "":
        return ()
    rows = thing.split("\n")
    parting = tuple([len(row) for row in rows])
    if not all([sign == "#" for row in rows for sign in row]) or not is_parting(parting):
        raise NoText("the text isn't the drawing of a parting")
    return parting
