"""Partings of one list led to those of another one, or to one another, by rules that go back as they came."""

from partrests.errors import NoList
from partrests.kinds import falls_by, has_none_often, is_of
from partrests.partings import sizes


def merged_parts(size, often, m):
    """The parts that so many of one size are merged into."""
    told = []
    while often > 0:
        told += [size] * (often % m)
        size *= m
        often //= m
    return told


def merged(parting, m):
    """The parting left when, as long as some size stands m times, m of it are made one part."""
    if any([part % m == 0 for part in parting]):
        raise NoList("m parts one of the parts")
    # No two sizes meet on their way, since m parts neither of them.
    told = [part for size, often in sizes(parting) for part in merged_parts(size, often, m)]
    return tuple(sorted(told, reverse=True))


def split_parts(part, m):
    """The alike parts that one part is split into."""
    many = 1
    while part % m == 0:
        part //= m
        many *= m
    return [part] * many


def split(parting, m):
    """The parting left when, as long as m parts some part, it is made m alike parts."""
    if not has_none_often(parting, m):
        raise NoList("some size stands m times or more")
    told = [piece for part in parting for piece in split_parts(part, m)]
    return tuple(sorted(told, reverse=True))


def run_of(parting):
    """How many parts from the first on fall by one each."""
    many = 1
    while many < len(parting) and parting[many - 1] - parting[many] == 1:
        many += 1
    return many


def each_moved(parts, step):
    """The parts, each greater by the step."""
    return tuple([part + step for part in parts])


def paired(parting):
    """The parting of unlike parts, one more or one fewer, that this one is paired with; None where there is none."""
    if not falls_by(parting, 1):
        raise NoList("two parts are alike")
    if len(parting) == 0:
        return None
    least = parting[-1]
    run = run_of(parting)
    whole = run == len(parting)
    if least <= run:
        if whole and least == run:
            return None
        return each_moved(parting[:least], 1) + parting[least:-1]
    if whole and least == run + 1:
        return None
    return each_moved(parting[:run], -1) + parting[run:] + (run,)


def folded(parting):
    """The unlike odd parts, one for each part above its place, that a parting turned the same folds to."""
    if not is_of(("own",), parting):
        raise NoList("turned, the parting is another one")
    return tuple([2 * (part - place) - 1 for place, part in enumerate(parting) if part > place])


def unfolded(parting):
    """The parting, turned the same, that is folded to this one."""
    if not falls_by(parting, 1) or any([part % 2 == 0 for part in parting]):
        raise NoList("the parts aren't unlike odd ones")
    upper = [(part + 1) // 2 + place for place, part in enumerate(parting)]
    greatest = max(upper, default=0)
    # Turned the same, the part at a place below tells how many of the upper ones go beyond this place.
    lower = [len([part for part in upper if part > place]) for place in range(len(upper), greatest)]
    return tuple(upper + lower)
