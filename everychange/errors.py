"""The errors of the package: none of them is under another one."""


class NoPlace(LookupError):
    """There is no such place, part, stage or number."""

    def __init__(self, place):
        self.place = place


class NothingDone(LookupError):
    """There is no deed that could be undone."""

    def __init__(self):
        pass


class BadLine(ValueError):
    """A text is wrong at this line, counted from 1."""

    def __init__(self, line):
        self.line = line


class CanNot(ValueError):
    """There is no such result."""

    def __init__(self):
        pass


class TooMuch(ValueError):
    """What is asked for would be too long."""

    def __init__(self):
        pass


class Unfit(ValueError):
    """The arguments do not fit one another, or are not of the kind told."""

    def __init__(self):
        pass
