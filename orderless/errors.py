"""The errors of the package: three families below OrderError.

No error calls the __init__ of its base class: its attributes may be any values, and are kept as they are.
"""


class OrderError(ValueError):
    """The base class of all errors."""


class PaperError(OrderError):
    """The family of errors of checkers."""


class ProgramError(OrderError):
    """The family of errors of programs and workshops."""


class TextError(OrderError):
    """The family of errors of texts."""


class InvalidPaper(PaperError):
    """A checker does not accept a value: word tells why, at where."""

    def __init__(self, word, at):
        self.word = word
        self.at = at


class UnknownRule(ProgramError):
    """A program has no rule of this name."""

    def __init__(self, name):
        self.name = name


class UnknownCell(ProgramError):
    """There is no cell, or no input row, of this name."""

    def __init__(self, name):
        self.name = name


class InvalidStep(ProgramError):
    """A step is barred."""

    def __init__(self, step, reason):
        self.step = step
        self.reason = reason


class InvalidInput(ProgramError):
    """A value does not fit an input row, or a state is no start."""

    def __init__(self, value):
        self.value = value


class NothingToUndo(ProgramError):
    """There is no step left to undo."""

    def __init__(self, steps):
        self.steps = steps


class InvalidText(TextError):
    """A line cannot be read: field is the index of its first wrong word."""

    def __init__(self, line, field):
        self.line = line
        self.field = field


class InvalidCommand(TextError):
    """A desk does not know this command."""

    def __init__(self, text):
        self.text = text
