"""The errors of the package.

Each is made with just its fields, and keeps them as they are: it neither judges
nor copies them, so that anything may be passed.
"""


class CopyError(ValueError):
    """What all errors of the package are."""


class BadSheet(CopyError):
    """A thing is no sheet: the part that is wrong."""

    def __init__(self, part):
        self.part = part


class NoPlace(CopyError):
    """A thing is no place."""

    def __init__(self):
        """Made with nothing."""


class NoRests(CopyError):
    """A thing is no tuple of rests."""

    def __init__(self):
        """Made with nothing."""


class NoLot(CopyError):
    """A thing is no lot."""

    def __init__(self):
        """Made with nothing."""


class NotClosed(CopyError):
    """A thing is no closed lot."""

    def __init__(self):
        """Made with nothing."""


class BadTable(CopyError):
    """A thing is no table: the part that is wrong, or the number of what is no block."""

    def __init__(self, part):
        self.part = part


class NoLoss(CopyError):
    """A thing is no loss."""

    def __init__(self):
        """Made with nothing."""


class BadLayout(CopyError):
    """A thing is no layout: the part that is wrong, or the number of what is no kind."""

    def __init__(self, part):
        self.part = part


class NoSharing(CopyError):
    """A thing is no sharing."""

    def __init__(self):
        """Made with nothing."""


class NoFraction(CopyError):
    """Two things are no fraction."""

    def __init__(self):
        """Made with nothing."""


class NoNumber(CopyError):
    """A thing is no number that may stand here."""

    def __init__(self):
        """Made with nothing."""


class TooMany(CopyError):
    """There is more than the most that is gone through."""

    def __init__(self, most):
        self.most = most


class NoOther(CopyError):
    """A kind has one step alone, so that no other copy is left."""

    def __init__(self):
        """Made with nothing."""


class NoBlock(CopyError):
    """A thing is no block."""

    def __init__(self):
        """Made with nothing."""


class Hidden(CopyError):
    """A block has no fresh copy."""

    def __init__(self, block):
        self.block = block


class Spent(CopyError):
    """A block was looked for as often as its weight tells."""

    def __init__(self, block):
        self.block = block


class NoBox(CopyError):
    """A thing is no box."""

    def __init__(self):
        """Made with nothing."""


class IsDown(CopyError):
    """A box is down."""

    def __init__(self):
        """Made with nothing."""


class IsUp(CopyError):
    """A box is up."""

    def __init__(self):
        """Made with nothing."""


class NoCopy(CopyError):
    """A block has no copy on a box."""

    def __init__(self):
        """Made with nothing."""


class NoLine(CopyError):
    """A thing is no line that a desk knows."""

    def __init__(self):
        """Made with nothing."""


class NoLines(CopyError):
    """A thing is no list or tuple of lines."""

    def __init__(self):
        """Made with nothing."""


class BadText(CopyError):
    """A text has not the form that is read: the first line that is wrong."""

    def __init__(self, line):
        self.line = line


class NoMending(CopyError):
    """A thing is no mending."""

    def __init__(self):
        """Made with nothing."""
