"""All errors of the package, and their families."""


class LotError(ValueError):
    """The base class of all errors."""


class PaperError(LotError):
    """A checker does not accept a value."""


class CaseError(LotError):
    """A question does not fit a book or a case."""


class HouseError(LotError):
    """A live house refuses something."""


class TextError(LotError):
    """A text is none of the written forms."""


class InvalidPaper(PaperError):
    """word tells what is wrong, at tells where."""

    def __init__(self, word, at):
        self.word = word
        self.at = at


class NotUsable(CaseError):
    """word tells which parameter does not fit, at tells its element."""

    def __init__(self, word, at):
        self.word = word
        self.at = at


class UnknownLot(CaseError):
    """A lot that never came."""

    def __init__(self, lot):
        self.lot = lot


class NoStory(CaseError):
    """There is no possible story by the blamed lots."""

    def __init__(self, blamed):
        self.blamed = blamed


class InvalidEvent(HouseError):
    """An event is not possible, for this reason."""

    def __init__(self, event, reason):
        self.event = event
        self.reason = reason


class NothingToUndo(HouseError):
    """There are not so many steps to take back."""

    def __init__(self, steps):
        self.steps = steps


class InvalidText(TextError):
    """The word with the index field cannot stand in this line, or is missing."""

    def __init__(self, line, field):
        self.line = line
        self.field = field


class InvalidRow(TextError):
    """A string that a desk does not know."""

    def __init__(self, row):
        self.row = row
