"""The hooks of a parting."""

from partrests.partings import turned


def hooks(parting):
    """For each part, at each place j below it, the part less j and how many parts behind it are above j."""
    columns = turned(parting)
    told = []
    for at, part in enumerate(parting):
        # All parts ahead of this one are above j too, so those behind are all such but at + 1.
        told.append(tuple([part - j + columns[j] - at - 1 for j in range(part)]))
    return tuple(told)
