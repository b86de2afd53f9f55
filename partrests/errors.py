"""The refusals: each stands straight under PartError, none under another one."""


class PartError(ValueError):
    """Stands above every refusal of this package."""


class NoRow(PartError):
    """Some number of the row wouldn't be whole."""


class NoCore(PartError):
    """The parting handed in as a core isn't one."""


class NoTurn(PartError):
    """The weight or the size leaves another rest than turning asks for."""


class NoPair(PartError):
    """The events can't be paired."""


class NoList(PartError):
    """The parting isn't in the list that is led to another one."""


class NoPlace(PartError):
    """The parting has no place, or the place has no parting."""


class NoText(PartError):
    """The text isn't what is written of a thing."""


class NoLine(PartError):
    """The line asks nothing that can be answered."""


class NotSo(PartError):
    """The claim isn't so; place tells where first."""

    def __init__(self, place):
        PartError.__init__(self, "the claim isn't so at a place of the row")
        self.place = place
