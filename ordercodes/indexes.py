"""An index: a code that is kept under deeds, each of which can be undone."""

from ordercodes.bounds import MAX_DEEDS, MAX_KEYS, MAX_LONG, MAX_SIGNS, MAX_WEIGHT
from ordercodes.codes import check_code, code_error, is_word, lengths
from ordercodes.errors import (
    BadIndex, BadWeights, Crowded, Full, LastKey, NoGap, NoKey, NothingToUndo, TooMany,
)
from ordercodes.gaps import put_in
from ordercodes.kinds import are_whole, is_whole
from ordercodes.rows import first_code
from ordercodes.totals import best_row


class Index:
    """A code with so many signs whose words have at most most signs."""

    def __init__(self, signs, code, most):
        check_index(signs, code, most)
        self._signs = signs
        self._most = most
        self._code = code
        # A key keeps its name through deeds and undo, while its number changes.
        self._names = tuple(range(len(code)))
        self._next_name = len(code)
        # For each deed in effect the code and the names ahead of it.
        self._past = ()
        self._moved = ()

    @property
    def signs(self):
        """The number of signs."""
        return self._signs

    @property
    def code(self):
        """The code as it is now."""
        return self._code

    @property
    def most(self):
        """The most signs that a word may have."""
        return self._most

    @property
    def version(self):
        """How many deeds are in effect."""
        return len(self._past)

    @property
    def moved(self):
        """The keys, by their numbers now, that had another word ahead of the last deed or undo."""
        return self._moved

    def put(self, gap, word):
        """Put a key with this word into the gap; return the new version."""
        self._check_not_full()
        check_gap(self._code, gap)
        if not is_word(self._signs, word) or len(word) > self._most:
            raise BadIndex(None, "word")
        if len(self._code) >= MAX_KEYS:
            raise TooMany()
        code = self._code[:gap] + (word,) + self._code[gap:]
        if code_error(self._signs, code) is not None:
            raise Crowded(gap)
        return self._do(code, self._names_with_new(gap))

    def squeeze(self, gap):
        """Put a key into the gap with the fewest words changed; return the new version."""
        self._check_not_full()
        check_gap(self._code, gap)
        code = put_in(self._signs, self._code, gap, 1, self._most)
        return self._do(code, self._names_with_new(gap))

    def take(self, key):
        """Take the key away; return the new version."""
        self._check_not_full()
        check_key(self._code, key)
        if len(self._code) == 1:
            raise LastKey()
        return self._do(self._code[:key] + self._code[key + 1:], self._names[:key] + self._names[key + 1:])

    def recode(self, weights):
        """Give all keys the words of the first code of the best row for the weights; return the new version."""
        self._check_not_full()
        if not are_whole(weights, 0, MAX_WEIGHT) or len(weights) != len(self._code):
            raise BadWeights(weights)
        return self._do(first_code(self._signs, best_row(self._signs, weights, self._most)), self._names)

    def undo(self):
        """Take the last deed in effect back; return the new version."""
        if not self._past:
            raise NothingToUndo()
        code, names = self._past[-1]
        self._past = self._past[:-1]
        self._change(code, names)
        return self.version

    def tried(self, function):
        """Call the function with the index, return what it returns, and put the index back as it was."""
        code, names, past, moved = self._code, self._names, self._past, self._moved
        try:
            return function(self)
        finally:
            self._code, self._names, self._past, self._moved = code, names, past, moved

    def _check_not_full(self):
        """Raise Full if as many deeds as there may be are in effect."""
        if len(self._past) >= MAX_DEEDS:
            raise Full()

    def _names_with_new(self, gap):
        """Return the names of the keys with a name in the gap that no key had before."""
        self._next_name += 1
        return self._names[:gap] + (self._next_name - 1,) + self._names[gap:]

    def _do(self, code, names):
        """Bring a deed into effect; return the new version."""
        self._past = self._past + ((self._code, self._names),)
        self._change(code, names)
        return self.version

    def _change(self, code, names):
        """Take this code and these names of the keys, and find out which keys have another word by that."""
        before = dict(zip(self._names, self._code))
        self._moved = tuple([key for key, name in enumerate(names) if before.get(name, code[key]) != code[key]])
        self._code = code
        self._names = names

    def __getitem__(self, at):
        check_key(self._code, at)
        return self._code[at]

    def __iter__(self):
        raise TypeError("an index is not iterated over, its code is")

    def __len__(self):
        return len(self._code)

    def __eq__(self, other):
        if not isinstance(other, Index):
            return False
        return self._signs == other._signs and self._code == other._code and self._most == other._most

    def __str__(self):
        return f"{len(self._code)} keys, version {len(self._past)}"


def check_index(signs, code, most):
    """Raise BadIndex if there is no index with these."""
    if not is_whole(signs, 2, MAX_SIGNS):
        raise BadIndex(None, "signs")
    check_code(signs, code)
    if not is_whole(most, 1, MAX_LONG) or max(lengths(code)) > most:
        raise BadIndex(None, "most")


def check_gap(code, gap):
    """Raise NoGap if the code has no such gap."""
    if not is_whole(gap, 0, len(code)):
        raise NoGap(gap)


def check_key(code, key):
    """Raise NoKey if the code has no such key."""
    if not is_whole(key, 0, len(code) - 1):
        raise NoKey(key)
