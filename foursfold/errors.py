"""The errors of the package; each keeps what it was made with."""


class FoldError(ValueError):
    """The base class of all errors here but NoCommand."""


class BadMerger(FoldError):
    """Rows that are no merger: the index of the first bad one, or -1."""

    def __init__(self, at):
        self.at = at


class Unsound(FoldError):
    """A merger for which it matters how three commands are merged."""

    def __init__(self, three):
        self.three = three


class Uneven(FoldError):
    """A merger that is not even: a queue of four that shows it."""

    def __init__(self, four):
        self.four = four


class BadQueue(FoldError):
    """What is no queue: the index of the first bad item, or -1."""

    def __init__(self, at):
        self.at = at


class BadWay(FoldError):
    """What is no way of a queue: the index of the first bad place, or -1."""

    def __init__(self, at):
        self.at = at


class BadHouse(FoldError):
    """What are no tables: the index of the first bad one, or -1."""

    def __init__(self, at):
        self.at = at


class BadText(FoldError):
    """A text that cannot be read: its first bad line or word."""

    def __init__(self, at):
        self.at = at


class Refused(FoldError):
    """A value that is none of those that are wanted."""

    def __init__(self, at):
        self.at = at


class PaperFault(FoldError):
    """A paper that does not hold: where it fails."""

    def __init__(self, at):
        self.at = at


class TooGreat(FoldError):
    """More things than a search may go through, or than may be made."""

    def __init__(self, most):
        self.most = most


class NoCommand(KeyError):
    """A value that is no command of the merger."""

    def __init__(self, command):
        self.command = command
