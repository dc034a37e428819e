"""The refusals of the package."""


class PeristyleError(ValueError):
    """Any refusal of this package."""


class BadText(PeristyleError):
    """A text that is no query; at is the index of the sign where it goes wrong."""

    def __init__(self, at):
        self.at = at


class BadName(PeristyleError):
    """A name that stands for nothing, or for several things."""

    def __init__(self, at):
        self.at = at


class BadKind(PeristyleError):
    """A kind, a call or a number of columns that does not fit."""

    def __init__(self, at):
        self.at = at


class BadForm(PeristyleError):
    """Something that is not of the form that is asked for."""


class BadKey(PeristyleError):
    """Two rows that agree in a key, or a table that cannot be used so."""


class NoSuch(PeristyleError):
    """A table, version or row that is not there."""


class TooMuch(PeristyleError):
    """More than a bound lets."""


class Stale(PeristyleError):
    """A run that has read or written what another one has changed since."""


class Behind(PeristyleError):
    """A copy that has not yet seen what a session has seen."""
