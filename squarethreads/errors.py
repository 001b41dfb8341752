"""The errors of the package, each with the value that it is about."""


class ThreadError(ValueError):
    """What all errors of the package are."""

    def __init__(self, value):
        self.value = value


class InvalidBook(ThreadError):
    """No book."""


class InvalidKind(ThreadError):
    """No index of a kind of the book."""


class InvalidDepth(ThreadError):
    """No depth."""


class InvalidCell(ThreadError):
    """No cell of the depth."""


class InvalidNumber(ThreadError):
    """No number of the depth, or no number of things."""


class InvalidBox(ThreadError):
    """No box within the depth."""


class InvalidPosture(ThreadError):
    """No posture."""


class InvalidPair(ThreadError):
    """Two books that cannot be compared."""


class InvalidField(ThreadError):
    """No field."""


class InvalidPicture(ThreadError):
    """No picture."""


class InvalidMake(ThreadError):
    """No make of the picture."""


class InvalidStore(ThreadError):
    """No store."""


class InvalidName(ThreadError):
    """No name for a book."""


class UnknownName(ThreadError):
    """A name that no book has."""


class NothingToUndo(ThreadError):
    """No change that could be taken back."""


class Unreadable(ThreadError):
    """A text that shows nothing that can be read."""


class Unorderly(ThreadError):
    """A text that is no order."""
