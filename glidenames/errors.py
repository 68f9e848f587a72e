"""The errors of the package."""


class NoPlace(LookupError):
    """A number by which nothing stands: place tells it."""

    def __init__(self, place):
        self.place = place


class BadText(ValueError):
    """A text that can not be read: line tells where, counted from 1."""

    def __init__(self, line):
        self.line = line


class CanNot(ValueError):
    """What is asked for is not there."""


class TooMuch(ValueError):
    """More is asked for than is worked out."""


class Unfit(ValueError):
    """What is handed in does not fit together."""
