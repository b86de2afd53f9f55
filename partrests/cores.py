"""Partings taken apart by t into a core and quotients, and back, and cores told by vectors."""

from partrests.errors import NoCore


def beads_of(parting, many):
    """The beads, falling, with noughts put behind the parts till there are so many."""
    parts = parting + (0,) * (many - len(parting))
    return [part + many - 1 - at for at, part in enumerate(parts)]


def parting_of(beads):
    """The parting that has these beads, with k as many as they are."""
    parts = [bead - behind for behind, bead in enumerate(sorted(beads))]
    return tuple([part for part in reversed(parts) if part > 0])


def rounds_of(parting, t):
    """The least k // t for beads of the parting by t."""
    return (len(parting) + t - 1) // t


def runs_of(parting, t, rounds):
    """For each rest the list of (bead - rest) // t of all beads that leave it by t, with k // t as rounds."""
    runs = [[] for rest in range(t)]
    for bead in beads_of(parting, t * rounds):
        runs[bead % t].append(bead // t)
    return runs


def with_least_beads(numbers):
    """The core by as many as they are that has so many beads of each rest, the least ones."""
    t = len(numbers)
    return parting_of([rest + t * at for rest, number in enumerate(numbers) for at in range(number)])


def vector(parting, t):
    """For each rest how many beads leave it by t, less k // t."""
    rounds = rounds_of(parting, t)
    return tuple([len(run) - rounds for run in runs_of(parting, t, rounds)])


def apart(parting, t):
    """The core by t and the t quotients of the parting."""
    runs = runs_of(parting, t, rounds_of(parting, t))
    core = with_least_beads([len(run) for run in runs])
    return (core, tuple([parting_of(run) for run in runs]))


def is_core(parting, t):
    """Whether the parting is its own core by t."""
    return apart(parting, t)[0] == parting


def joined(core, quotients):
    """The parting that comes apart into the core and the quotients, by as many as they are."""
    t = len(quotients)
    if not is_core(core, t):
        raise NoCore("the parting isn't a core by as many as the quotients are")
    # So many rounds more give each rest enough beads for its quotient.
    rounds = rounds_of(core, t) + max([len(quotient) for quotient in quotients])
    beads = []
    for rest, run in enumerate(runs_of(core, t, rounds)):
        for bead in beads_of(quotients[rest], len(run)):
            beads.append(rest + t * bead)
    return parting_of(beads)


def size_of(numbers):
    """The weight of the core that has the vector."""
    squares = sum([number * number for number in numbers])
    # What is 0 together has an even sum of squares, so that nothing is lost by halving.
    return len(numbers) * squares // 2 + sum([rest * number for rest, number in enumerate(numbers)])


def core_of(numbers):
    """The core, by as many as they are, that has the vector."""
    # The least of numbers that are 0 together is no more than 0.
    rounds = -min(numbers)
    return with_least_beads([rounds + number for number in numbers])
