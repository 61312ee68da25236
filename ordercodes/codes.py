"""Words and codes, and reading keys by their joined words."""

from ordercodes.bounds import MAX_KEYS, MAX_LONG
from ordercodes.errors import BadIndex, BadRow
from ordercodes.kinds import are_whole


def is_word(signs, value):
    """Return whether value is a word."""
    return are_whole(value, 0, signs - 1) and len(value) <= MAX_LONG


def is_start(one, other):
    """Return whether the word one begins the word other."""
    return other[:len(one)] == one


def parted(one, other):
    """Return the shortest word, of several the least, that is above one and not above other."""
    same = 0
    while same < len(one) and one[same] == other[same]:
        same += 1
    # With the shared signs alone a word would not be above one, so just one more sign is needed.
    if same == len(one):
        return one + (0,)
    return one[:same] + (one[same] + 1,)


def code_error(signs, value):
    """Return None if value is a code, otherwise the pair that tells its first fault."""
    if not isinstance(value, tuple) or not 1 <= len(value) <= MAX_KEYS:
        return (None, "code")
    for number, word in enumerate(value):
        if not is_word(signs, word):
            return (number, "word")
        if number > 0:
            fault = neighbours_error(value[number - 1], word)
            if fault is not None:
                return (number, fault)
    return None


def check_code(signs, value):
    """Raise BadIndex with the pair that code_error tells if value is no code."""
    fault = code_error(signs, value)
    if fault is not None:
        number, what = fault
        raise BadIndex(number, what)


def neighbours_error(ahead, word):
    """Return what is wrong with a word behind the one ahead, None if nothing is."""
    if word <= ahead:
        return "order"
    # In ascending words one that begins a later one begins its neighbour too, so neighbours are enough.
    if is_start(ahead, word):
        return "start"
    return None


def lengths(code):
    """Return the row of the lengths of the code's words."""
    return tuple([len(word) for word in code])


def joined(code, keys):
    """Return the signs of the words of these keys, one word behind another."""
    return tuple([sign for key in keys for sign in code[key]])


def read(signs, code, value):
    """Return the keys whose joined words value is; raise BadRow if there are none."""
    if not are_whole(value, 0, signs - 1):
        raise BadRow(None)
    starts = keys_by_start(code)
    found = []
    start = ()
    for place, sign in enumerate(value):
        start = start + (sign,)
        if start not in starts:
            raise BadRow(place)
        if starts[start] is not None:
            found.append(starts[start])
            start = ()
    if start != ():
        raise BadRow(len(value))
    return tuple(found)


def keys_by_start(code):
    """Return, for each beginning of a word of the code, the key whose word it is, None if it is only a beginning."""
    starts = {}
    for key, word in enumerate(code):
        for size in range(len(word)):
            starts[word[:size]] = None
        starts[word] = key
    return starts
