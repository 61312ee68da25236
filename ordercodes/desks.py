"""A desk that answers lines about an index and works on it by them."""

from ordercodes.bounds import MAX_KEYS
from ordercodes.codes import lengths, read
from ordercodes.errors import CodeError, NoCode, NoGap, NoKey
from ordercodes.gaps import free, pages, room
from ordercodes.indexes import check_gap
from ordercodes.texts import code_text, is_number_text, pieces_of, row_text, signs_of, word_of, word_text

# The answer to what is no line that the desk knows.
WHAT = "what"
NOTHING = "nothing"
# How many pairs of a line and its answer the desk keeps.
KEPT = 10


class Desk:
    """Answers lines about the index, and works on this very index."""

    def __init__(self, index):
        self._index = index
        self._history = ()

    def say(self, line):
        """Return the answer to the line, which may be any value."""
        said = line if isinstance(line, str) else None
        answer = WHAT if said is None else answer_to(self._index, pieces_of(said))
        self._history = (self._history + ((said, answer),))[-KEPT:]
        return answer

    @property
    def history(self):
        """The last pairs of a line and its answer, the line being None if it was no string."""
        return self._history


def answer_to(index, pieces):
    """Return the answer to the line with these pieces, also if a call raises an error of the package."""
    try:
        return answer_of_call(index, pieces)
    except (CodeError, NoCode, NoGap, NoKey) as error:
        return "no " + type(error).__name__


def answer_of_call(index, pieces):
    """Return the answer to the line with these pieces; raise what the call that it tells raises."""
    name = pieces[0] if pieces else ""
    told = pieces[1:]
    if name in LONE and not told:
        lone = LONE[name]
        return lone(index)
    if name in NUMBERED and len(told) == 1 and is_number_text(told[0], 2):
        numbered = NUMBERED[name]
        return numbered(index, int(told[0]))
    if name in OTHERS:
        other = OTHERS[name]
        return other(index, told)
    return WHAT


def done(version):
    """Return the answer to a deed or an undo behind which the index has this version."""
    return f"ok {version}"


def listed(texts):
    """Return the texts with single blanks between them, and what stands for none."""
    return " ".join(texts) if texts else NOTHING


def undo_last(index):
    """Answer "undo"."""
    return done(index.undo())


def tell_moved(index):
    """Answer "moved"."""
    return listed([str(key) for key in index.moved])


def tell_row(index):
    """Answer "row"."""
    return row_text(lengths(index.code))


def tell_text(index):
    """Answer "text"."""
    return code_text(index.code)


def squeeze_into(index, gap):
    """Answer "squeeze" with a gap."""
    return done(index.squeeze(gap))


def take_key(index, key):
    """Answer "take" with a key."""
    return done(index.take(key))


def tell_word(index, key):
    """Answer "word" with a key."""
    return word_text(index[key])


def tell_free(index, gap):
    """Answer "free" with a gap."""
    check_gap(index.code, gap)
    return listed([word_text(word) for word in free(index.signs, index.code)[gap]])


def tell_room(index, gap):
    """Answer "room" with a gap."""
    check_gap(index.code, gap)
    return str(room(index.signs, index.code, gap, index.most))


def tell_pages(index, size):
    """Answer "pages" with a size."""
    if not 1 <= size <= MAX_KEYS:
        return WHAT
    return listed([str(key) for key in pages(index.code, size)])


def put_word(index, told):
    """Answer "put" with a gap and the text of a word."""
    if len(told) != 2 or not is_number_text(told[0], 2):
        return WHAT
    word = word_of(index.signs, told[1])
    return WHAT if word is None else done(index.put(int(told[0]), word))


def recode_by(index, told):
    """Answer "recode" with weights."""
    if not told or not all([is_number_text(piece, 13) for piece in told]):
        return WHAT
    return done(index.recode(tuple([int(piece) for piece in told])))


def tell_keys(index, told):
    """Answer "keys" with signs in one piece."""
    signs = signs_of(index.signs, told[0]) if len(told) == 1 else None
    if signs is None:
        return WHAT
    return listed([str(key) for key in read(index.signs, index.code, signs)])


# The lines of one piece, those with a number behind it, and the others, each with the function that answers it.
LONE = {"undo": undo_last, "moved": tell_moved, "row": tell_row, "text": tell_text}
NUMBERED = {
    "squeeze": squeeze_into, "take": take_key, "word": tell_word, "free": tell_free, "room": tell_room,
    "pages": tell_pages,
}
OTHERS = {"put": put_word, "recode": recode_by, "keys": tell_keys}
