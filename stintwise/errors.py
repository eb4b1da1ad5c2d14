"""The refusals: each one a class of its own, straight under StintError."""


class StintError(ValueError):
    """Any refusal."""


class Wrong(StintError):
    """The value handed in at this place isn't as it must be."""

    def __init__(self, at):
        self.at = at


class NotNow(StintError):
    """The machine may not run, or rest, so at this hour."""

    def __init__(self, at):
        self.at = at


class TooMany(StintError):
    """There are more than this limit."""

    def __init__(self, limit):
        self.limit = limit


class NoHour(StintError):
    """No hour waits there."""


class NoDeed(StintError):
    """There is nothing to take back."""


class NoText(StintError):
    """The line is not one that is written here."""
