"""The errors of the package, each with its fields as attributes."""


class LinesError(ValueError):
    """The base class of all errors of the package."""


class BadMachine(LinesError):
    """A value is no machine: part is "machine", "cells" or "functions"."""

    def __init__(self, part):
        self.part = part


class BadProgram(LinesError):
    """A value is no program: index is that of its first item that is no line, or None."""

    def __init__(self, index):
        self.index = index


class BadTerm(LinesError):
    """A value is no term."""


class BadWishes(LinesError):
    """A value is no wishes: index is that of its first item that is wrong, or None."""

    def __init__(self, index):
        self.index = index


class BadLosses(LinesError):
    """A value is no losses of the program."""


class BadNumber(LinesError):
    """A value is no number from those that are allowed."""


class BadChance(LinesError):
    """A value is no chance."""


class NoProgram(LinesError):
    """No program does what is asked for."""


class BadStep(LinesError):
    """There is no step to take back."""


class TooMany(LinesError):
    """More comes than the limit most allows."""

    def __init__(self, most):
        self.most = most


class BadText(LinesError):
    """A value is no text of the kind asked for: line is the number of its wrong line."""

    def __init__(self, line):
        self.line = line


class BadRule(LinesError):
    """A value is no rule of loss for the program."""


class BadSwaps(LinesError):
    """A value is no swaps of the program."""


class BadTalk(LinesError):
    """A value is no talk: index is that of its first item that is wrong, or None."""

    def __init__(self, index):
        self.index = index


class BadCells(LinesError):
    """A value is no ascending tuple of cells of the machine."""


class BadRelay(LinesError):
    """A value is no relay: index is that of its first item that is no stage, or None."""

    def __init__(self, index):
        self.index = index
