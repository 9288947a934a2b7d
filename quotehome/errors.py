"""The errors of the package. They keep what they are passed and look at none of it."""


class QuoteError(ValueError):
    """The base of the errors about values that do not fit."""


class InvalidWord(QuoteError):
    """A value is not a word."""

    def __init__(self, value):
        self.value = value


class InvalidText(QuoteError):
    """A value is not a text; the part with this index is not a word."""

    def __init__(self, index):
        self.index = index


class InvalidStep(QuoteError):
    """A step cannot be made of these arguments."""

    def __init__(self, reason, index):
        self.reason = reason
        self.index = index


class InvalidChain(QuoteError):
    """A chain cannot be made of these steps."""

    def __init__(self, reason, index):
        self.reason = reason
        self.index = index


class InvalidLine(QuoteError):
    """A text does not write a chain; this word of this line cannot stand there."""

    def __init__(self, line, word):
        self.line = line
        self.word = word


class UnknownCommand(QuoteError):
    """A line has the form of no command."""

    def __init__(self, line):
        self.line = line


class Missed(QuoteError):
    """Two chains do not follow: this quote of this text is missed."""

    def __init__(self, text, first, last):
        self.text = text
        self.first = first
        self.last = last


class NoText(KeyError):
    """No text has this name."""

    def __init__(self, name):
        self.name = name


class NoBeginning(KeyError):
    """A value is no beginning of the writing chain."""

    def __init__(self, begun):
        self.begun = begun


class NoWord(IndexError):
    """A value is not the number of a word that can stand here."""

    def __init__(self, index):
        self.index = index


class NoBlock(IndexError):
    """A value is not the number of a block."""

    def __init__(self, index):
        self.index = index


class TooMany(OverflowError):
    """There is more of something than this limit."""

    def __init__(self, limit):
        self.limit = limit


class NothingToUndo(LookupError):
    """So many lines cannot be taken back."""

    def __init__(self, count):
        self.count = count
