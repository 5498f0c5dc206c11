"""The errors of the package: one class for each kind of failure."""


class RowError(ValueError):
    """What all errors of the package stand beneath; `value` is the very object that was wrong."""

    def __init__(self, value=None):
        self.value = value


class InvalidHand(RowError):
    """A hand, or a device's hand, is none."""


class InvalidMark(RowError):
    """A mark is none, or none of the asked kind."""


class InvalidDeed(RowError):
    """A deed is none."""


class InvalidHistory(RowError):
    """A history is none, or cannot be made of what was passed."""


class InvalidView(RowError):
    """A view is none of the history."""


class InvalidOrder(RowError):
    """A list of things, or a choice of such, is none."""


class InvalidRun(RowError):
    """A run is none."""


class InvalidPlace(RowError):
    """A place is none of the row."""


class InvalidWord(RowError):
    """A word is none."""


class InvalidSteps(RowError):
    """Changes of a row are none, or do not fit the row."""


class InvalidRows(RowError):
    """A row is none, or rows that hands saw are none."""


class InvalidNumber(RowError):
    """A number is that of no letter."""


class InvalidNet(RowError):
    """A net is none."""


class InvalidScript(RowError):
    """A script is none."""


class InvalidText(RowError):
    """A text is none that the writer makes."""


class InvalidRecord(RowError):
    """A log is none."""


class Refused(RowError):
    """What was asked for is well formed, but refused."""


class NothingToUndo(RowError):
    """A net has no command to take back."""


class NothingToRedo(RowError):
    """A net has no command to make again."""
