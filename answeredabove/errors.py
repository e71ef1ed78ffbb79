"""The errors of the package."""


class AnswerError(ValueError):
    """What is passed does not have the form that it should have."""


class InvalidProgram(AnswerError):
    """The values make no procedure or no program."""


class InvalidMode(AnswerError):
    """The value is no mode that can stand here."""


class InvalidTable(AnswerError):
    """The value is no table of the program."""


class InvalidRun(AnswerError):
    """The choices make no run."""


class InvalidFact(AnswerError):
    """The value is no fact."""


class InvalidDerivation(AnswerError):
    """The value is no derivation."""


class InvalidOperation(AnswerError):
    """What is asked for cannot be done."""


class InvalidCommand(AnswerError):
    """The value is no command."""


class ParseError(AnswerError):
    """A line of a text cannot be read."""

    def __init__(self, line):
        self.line = line


class UnknownName(KeyError):
    """Nothing has this name."""

    def __init__(self, name):
        self.name = name


class UnknownSite(KeyError):
    """Nothing has this site."""

    def __init__(self, site):
        self.site = site


class InvalidNumber(IndexError):
    """The number cannot stand here."""

    def __init__(self, value):
        self.value = value


class NothingToUndo(LookupError):
    """There are fewer steps to take back or to do again."""

    def __init__(self, many):
        self.many = many


class Refused(ArithmeticError):
    """The promise of this name would not be kept."""

    def __init__(self, name):
        self.name = name


class TooMany(OverflowError):
    """The answer would need more than the limit."""

    def __init__(self, limit):
        self.limit = limit
