"""The refusals of the program, one class for each."""


class VaultError(ValueError):
    """Any refusal."""


class NoThing(VaultError):
    """A text that is none of a thing."""


class NoPaper(VaultError):
    """A vault has no thing of a seal."""


class BadThing(VaultError):
    """Something is no thing, or not the thing that it is read as."""


class Clash(VaultError):
    """Two unlike things have one seal: the one that was there, and the other, new one."""

    def __init__(self, one, other):
        self.one = one
        self.other = other


class NotOn(VaultError):
    """A history does not go on from the one that is held."""


class NoState(VaultError):
    """There is no state of a number."""


class NoName(VaultError):
    """A name, or the names of columns, are none."""


class NoTable(VaultError):
    """There is no table of a name, or there is one already."""


class NoColumn(VaultError):
    """There is no such column, or it can't be used so."""


class NoRow(VaultError):
    """A row is none of its table."""


class NoQuestion(VaultError):
    """A text that is no question."""


class NoPlan(VaultError):
    """A plan that is none of a question."""


class NoStep(VaultError):
    """A text that is no step."""


class NotSo(VaultError):
    """A question has another answer than the one that is needed."""


class NoCommand(VaultError):
    """A row that the desk does not know."""
