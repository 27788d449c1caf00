"""The errors of the package. Each keeps the very objects that it was made from."""


class StrewError(ValueError):
    """What all errors of the package have in common; it is raised nowhere itself."""


class Wrong(StrewError):
    """The argument at a place, counted from 0, is not as described."""

    def __init__(self, place):
        self.place = place


class NoText(StrewError):
    """The line with this index shows nothing that may stand there."""

    def __init__(self, line):
        self.line = line


class TooMany(StrewError):
    """There are more than so many."""

    def __init__(self, most):
        self.most = most


class NotGood(StrewError):
    """It is not good."""


class NoNumber(StrewError):
    """The number is not below how many there are."""

    def __init__(self, many):
        self.many = many


class NoDeed(StrewError):
    """The deed with this index may not be done."""

    def __init__(self, index):
        self.index = index


class NoFit(StrewError):
    """No good shuffle fits."""


class NoName(StrewError):
    """There is nothing of this name."""

    def __init__(self, name):
        self.name = name


class Twice(StrewError):
    """There is something of this name already."""

    def __init__(self, name):
        self.name = name


class NoCommand(StrewError):
    """The line is no command."""
