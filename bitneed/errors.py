"""The refusals: one class for each kind, all of them under BitError."""


class BitError(ValueError):
    """Any refusal."""


class BadText(BitError):
    """A text that tells no program, with the first word that can't stand there."""

    def __init__(self, line, word):
        BitError.__init__(self, f"line {line}, word {word}: this can't stand here")
        self.line = line
        self.word = word


class Unsound(BitError):
    """A program that is right by its form, but for a wrong place, and what is wrong there."""

    def __init__(self, place, what):
        BitError.__init__(self, f"place {place}: {what}")
        self.place = place
        self.what = what


class BadProgram(BitError):
    """What is no program by its form."""


class BadInput(BitError):
    """What is no tuple of a word for each input."""


class BadPlace(BitError):
    """What is no place, or none that was asked for."""


class BadFacts(BitError):
    """What are no facts of the names that are wanted."""


class BadWidths(BitError):
    """What are no widths of the set rows."""


class BadPaper(BitError):
    """A paper that isn't right."""


class BadAsked(BitError):
    """What can't be asked for."""


class TooMany(BitError):
    """More can be put in than is gone through."""


class BadLine(BitError):
    """What is no line."""
