"""The errors of the package, in their families."""


class SurelyError(ValueError):
    """What all errors of the package are derived from."""


class PaperError(SurelyError):
    """The family of what is wrong with a paper, with carets or with a way."""


class RowError(SurelyError):
    """The family of what cannot be used."""


class WritingError(SurelyError):
    """The family of what a writing refuses."""


class TextError(SurelyError):
    """The family of what no string of this kind can be."""


class InvalidPaper(PaperError):
    """A checker confirms no such thing."""

    def __init__(self, word, at):
        self.word = word
        self.at = at


class NotUsable(RowError):
    """An argument is not of the stated kind."""

    def __init__(self, word, at):
        self.word = word
        self.at = at


class TookBack(RowError):
    """A checker takes back a complaint, or shows a false one."""

    def __init__(self, moment, complaint):
        self.moment = moment
        self.complaint = complaint


class InvalidEvent(WritingError):
    """A writing refuses an event."""

    def __init__(self, event, reason):
        self.event = event
        self.reason = reason


class NothingToUndo(WritingError):
    """A writing has no event that could be taken back."""

    def __init__(self, steps):
        self.steps = steps


class InvalidText(TextError):
    """A string writes nothing of the asked kind."""

    def __init__(self, line, field):
        self.line = line
        self.field = field


class InvalidRow(TextError):
    """A desk is told a row that it does not know."""

    def __init__(self, row):
        self.row = row
