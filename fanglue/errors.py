"""The refusals of the program."""


class FanError(ValueError):
    """Any refusal."""


class NoFraction(FanError):
    """0 over 0 is no fraction."""


class NoTurning(FanError):
    """No turning is made of what was handed in."""


class NoFan(FanError):
    """The thing is no fan: where its first fault lies, and at which number."""

    def __init__(self, where, at=0):
        self.where = where
        self.at = at


class NoTable(FanError):
    """No table is made of what was handed in."""


class NoRoot(FanError):
    """The thing is no root."""


class NotIn(FanError):
    """The turning is not of the group."""


class NoPaper(FanError):
    """The thing is no paper that holds: the number of the first asking that fails."""

    def __init__(self, at):
        self.at = at


class NoText(FanError):
    """The thing is not what writes the value that is due."""


class NoRow(FanError):
    """The row is none that a desk knows."""


class NoName(FanError):
    """Nothing stands by this name."""


class Full(FanError):
    """A desk has no room for another name."""


class Open(FanError):
    """The group never closes."""


class TooLong(FanError):
    """The short word has too many letters."""


class TooMany(FanError):
    """There are too many places."""
