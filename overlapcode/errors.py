"""The errors of the package.

Each error keeps its value as it was passed, because callers look at it.
"""


class OverlapError(ValueError):
    """The error from which all others derive."""


class InvalidInstructionSet(OverlapError):
    """A part of an instruction set is invalid; `field` is its name."""

    def __init__(self, field):
        self.field = field


class InvalidEntry(OverlapError):
    """A decoder cannot enter here."""

    def __init__(self, value):
        self.value = value


class InvalidOffset(OverlapError):
    """This is not an offset that the call allows."""

    def __init__(self, value):
        self.value = value


class InvalidLengths(OverlapError):
    """This is not a tuple of lengths."""

    def __init__(self, value):
        self.value = value


class InvalidCountdowns(OverlapError):
    """This is not a tuple of countdowns."""

    def __init__(self, value):
        self.value = value


class InvalidProgram(OverlapError):
    """This is not a program, or not a tuple of programs."""

    def __init__(self, value):
        self.value = value


class InvalidEntries(OverlapError):
    """This is not a tuple of entries for the programs."""

    def __init__(self, value):
        self.value = value


class TooManyStates(OverlapError):
    """The state count is above the limit."""

    def __init__(self, count):
        self.count = count


class InvalidNumber(OverlapError):
    """No overlay has this number."""

    def __init__(self, value):
        self.value = value


class InvalidCode(OverlapError):
    """This is not a code."""

    def __init__(self, value):
        self.value = value


class InvalidTimes(OverlapError):
    """Bytes cannot be repeated this many times."""

    def __init__(self, value):
        self.value = value


class NothingToUndo(OverlapError):
    """There is no edit that is not taken back."""


class ParseError(OverlapError):
    """A text does not have its format; `line` is the number of the line."""

    def __init__(self, line):
        self.line = line


class CommandError(OverlapError):
    """A line is not a command of a session."""

    def __init__(self, line):
        self.line = line


class TooLong(OverlapError):
    """A buffer has too many bytes to be run."""

    def __init__(self, size):
        self.size = size
