"""Texts of partings and kinds, and drawings of partings."""


def show_parting(parting):
    """The parts with + between; - for the parting of 0."""
    if len(parting) == 0:
        return "-"
    return "+".join([str(part) for part in parting])


def show_rests(rests):
    """The rests with commas between."""
    return ",".join([str(rest) for rest in rests])


def show_kind(kind):
    """The word of the kind and its numbers, a blank between."""
    if kind[0] == "rests":
        return f"rests {kind[1]} {show_rests(kind[2])}"
    return " ".join([kind[0]] + [str(number) for number in kind[1:]])


def drawn(parting):
    """A row of as many # for each part, line feeds between."""
    return "\n".join(["#" * part for part in parting])
