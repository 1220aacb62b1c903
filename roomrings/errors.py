"""The errors. Each keeps the very objects that it was made with, and does not look at them."""


class RoomError(ValueError):
    """The base class of all errors of the package."""


class PaperError(RoomError):
    """Family: a value that was to be checked is not what it should be."""


class TreeError(RoomError):
    """Family: an argument cannot be used."""


class MovingError(RoomError):
    """Family: an event cannot be applied."""


class TextError(RoomError):
    """Family: a text writes nothing."""


class InvalidPaper(PaperError):
    """A checker refuses a value: what is wrong, and where."""

    def __init__(self, word, at):
        self.word = word
        self.at = at


class NotUsable(TreeError):
    """An argument cannot be used: which one, and what or where."""

    def __init__(self, word, at):
        self.word = word
        self.at = at


class InvalidEvent(MovingError):
    """An event is refused, for this reason."""

    def __init__(self, event, reason):
        self.event = event
        self.reason = reason


class NothingToUndo(MovingError):
    """There is no event to take back."""

    def __init__(self, steps):
        self.steps = steps


class Barred(MovingError):
    """An event is refused because these folders would be a ring."""

    def __init__(self, event, folders):
        self.event = event
        self.folders = folders


class InvalidText(TextError):
    """A text writes nothing: the line and the word of it that cannot stand."""

    def __init__(self, line, field):
        self.line = line
        self.field = field


class InvalidRow(TextError):
    """A desk does not know this row."""

    def __init__(self, row):
        self.row = row
