"""Two numbers told of a parting: its rank and its mark."""


def rank(parting):
    """The greatest part less how many there are; 0 of the parting of 0."""
    if len(parting) == 0:
        return 0
    return parting[0] - len(parting)


def mark(parting):
    """The greatest part where none is 1, else how many parts are greater than the number of 1s, less this number."""
    if len(parting) == 0:
        return 0
    ones = parting.count(1)
    if ones == 0:
        return parting[0]
    return len([part for part in parting if part > ones]) - ones
