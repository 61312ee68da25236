"""The errors of the package: the CodeErrors, and three LookupErrors."""


class CodeError(ValueError):
    """What a code, a row, a text or an index does not allow."""


class BadIndex(CodeError):
    """No index can be made of this: the item with this number, None for the whole, and what is wrong."""

    def __init__(self, number, word):
        self.number = number
        self.word = word


class BadRow(CodeError):
    """Signs that are no joined words: the index of the first sign that is wrong, None for the whole."""

    def __init__(self, place):
        self.place = place


class BadText(CodeError):
    """A text that cannot be read: the number of the first piece that is wrong, None for the whole."""

    def __init__(self, number):
        self.number = number


class BadWeights(CodeError):
    """No weights for the code."""

    def __init__(self, value):
        self.value = value


class Crowded(CodeError):
    """With this word in the gap there would be no code."""

    def __init__(self, gap):
        self.gap = gap


class Full(CodeError):
    """As many deeds as there may be are in effect."""


class LastKey(CodeError):
    """The only key cannot be taken."""


class NoFit(CodeError):
    """A row that does not fit: the first key that has no word."""

    def __init__(self, key):
        self.key = key


class NothingToUndo(CodeError):
    """No deed is in effect."""


class TooMany(CodeError):
    """More keys than there may be."""


class NoCode(LookupError):
    """No code has this number."""

    def __init__(self, value):
        # The value may have more digits than Python writes out, so the message does not show it.
        LookupError.__init__(self, "no code has this number")
        self.value = value


class NoGap(LookupError):
    """There is no such gap."""

    def __init__(self, gap):
        self.gap = gap


class NoKey(LookupError):
    """There is no such key."""

    def __init__(self, key):
        self.key = key
