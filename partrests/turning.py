"""Turning a parting on by 5, 7 or 11, through as many partings of its weight, and its share of them."""

from partrests.cores import apart, core_of, joined, vector
from partrests.frames import frame_of, vector_by


def core_frame(t, parting):
    """The frame of the parting's core; refused as frame_of does, just where the weight leaves another rest than c."""
    # A parting has the vector of its core, and weighs as much as that one and some multiple of t.
    return frame_of(t, vector(parting, t))


def turned_on(t, parting):
    """The parting with the same quotients, whose core's frame is moved on by one place."""
    frame = core_frame(t, parting)
    moved = frame[-1:] + frame[:-1]
    quotients = apart(parting, t)[1]
    return joined(core_of(vector_by(t, moved)), quotients)


def share(t, parting):
    """What the sum of the frame's numbers times their places leaves by t."""
    return sum([place * number for place, number in enumerate(core_frame(t, parting))]) % t
