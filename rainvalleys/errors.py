"""The errors of the package.

Their messages leave the values out: a value may be anything, also too long to be shown.
"""


class RainError(ValueError):
    """An argument is not what the document asks for."""


class InvalidNumber(RainError):
    """A value is not a number as it is asked for."""

    def __init__(self, value):
        RainError.__init__(self, "not a valid number here")
        self.value = value


class InvalidProfile(RainError):
    """The heights are no row of heights (index None), or one of them is invalid."""

    def __init__(self, index):
        RainError.__init__(self, "not valid heights of a profile")
        self.index = index


class InvalidWidths(RainError):
    """The widths are no row of widths (index None), or one of them is invalid."""

    def __init__(self, index):
        RainError.__init__(self, "not valid widths of a profile")
        self.index = index


class InvalidWeights(RainError):
    """The weights are no row of weights (index None), or one of them is invalid."""

    def __init__(self, index):
        RainError.__init__(self, "not valid weights of rain")
        self.index = index


class InvalidObservations(RainError):
    """The observations are no list (index None), or one of them is invalid."""

    def __init__(self, index):
        RainError.__init__(self, "not valid observations")
        self.index = index


class InvalidOperations(RainError):
    """The operations are no list (index None), or one of them is invalid."""

    def __init__(self, index):
        RainError.__init__(self, "not valid operations")
        self.index = index


class ParseError(RainError):
    """A value is not the text of what is asked for."""

    def __init__(self, value):
        RainError.__init__(self, "not a text that can be read here")
        self.value = value


class InvalidCommand(RainError):
    """A value is not a command of the console."""

    def __init__(self, value):
        RainError.__init__(self, "not a command")
        self.value = value


class InvalidCascade(RainError):
    """The profiles or links are invalid (name None), or lead from a name back to it."""

    def __init__(self, name):
        RainError.__init__(self, "not a valid cascade")
        self.name = name


class ScriptError(RainError):
    """A value is no script (line None), or a line of it is wrong."""

    def __init__(self, line):
        RainError.__init__(self, "not a valid script")
        self.line = line


class InvalidColumn(IndexError):
    """A value is not a column."""

    def __init__(self, value):
        IndexError.__init__(self, "not a column")
        self.value = value


class InvalidValley(IndexError):
    """A value is not the number of a valley."""

    def __init__(self, value):
        IndexError.__init__(self, "not the number of a valley")
        self.value = value


class UnknownName(KeyError):
    """Nothing has this name."""

    def __init__(self, name):
        KeyError.__init__(self, "unknown name")
        self.name = name


class LimitExceeded(OverflowError):
    """Something would become greater than a limit."""

    def __init__(self, limit):
        OverflowError.__init__(self, "limit exceeded")
        self.limit = limit


class NothingToUndo(RuntimeError):
    """There are not so many operations to undo or to redo."""

    def __init__(self, count):
        RuntimeError.__init__(self, "not so many operations")
        self.count = count
