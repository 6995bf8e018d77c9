"""The errors of the program, one class for each kind of failure."""


class PairError(ValueError):
    """The base of all errors but NoPair and NoVersion."""


class BadText(PairError):
    """A text that no scheme has: the index of the line at which this shows, or None."""

    def __init__(self, line):
        self.line = line


class BadScheme(PairError):
    """What is no scheme, with the reason."""

    def __init__(self, error):
        self.error = error


class BadRule(PairError):
    """What is no rule, with the reason."""

    def __init__(self, error):
        self.error = error


class BadWord(PairError):
    """What is no word of the letters, or a word that is too long."""

    def __init__(self, word):
        self.word = word


class BadLength(PairError):
    """What is no length of words."""

    def __init__(self, length):
        self.length = length


class NotRight(PairError):
    """The first (0) or the second (1) of two rules cannot be put to and fro."""

    def __init__(self, which):
        self.which = which


class NotLeft(PairError):
    """What is no word that the first rule leaves."""

    def __init__(self, word):
        self.word = word


class TooFar(PairError):
    """A way to and fro that takes too many steps."""


class TooGreat(PairError):
    """A machine that would have too many states."""


class Faulty(PairError):
    """A rule that is not right, with its fault."""

    def __init__(self, fault):
        self.fault = fault


class Busy(PairError):
    """An edit that comes while a watch of the bench runs."""


class TooManyEdits(PairError):
    """An edit that comes when as many stand as may."""


class NothingToUndo(PairError):
    """No edit stands."""


class NothingToRedo(PairError):
    """No edit was removed and may be put back."""


class BadEdits(PairError):
    """What is no list or tuple of edits, or one that is too long."""


class BadEdit(PairError):
    """An item at this index that is no edit."""

    def __init__(self, index):
        self.index = index


class Rejected(PairError):
    """An edit at this index that raised an error when it was done."""

    def __init__(self, index):
        self.index = index


class NoPair(LookupError):
    """What is no index of a pair of the rule."""

    def __init__(self, index):
        self.index = index


class NoVersion(LookupError):
    """What is no version that the bench has come through."""

    def __init__(self, version):
        self.version = version
