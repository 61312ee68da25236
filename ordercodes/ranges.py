"""Keys in a row told by words, and the fewest words that tell just them."""

from ordercodes.codes import is_start, is_word


def told_by(code, word):
    """Return the pair of the first and the last key whose words the word begins, None if there is none."""
    keys = told_by_some(code, (word,))
    return (keys[0], keys[-1]) if keys else None


def told_by_some(code, words):
    """Return the keys that some of the words tell in ascending order."""
    return [key for key, own in enumerate(code) if any([is_start(word, own) for word in words])]


def cover(signs, code, first, last):
    """Return the shortest words that tell some keys and none but those from first to last, in ascending order."""
    found = []
    for key in range(first, last + 1):
        if not found or not is_start(found[-1], code[key]):
            found.append(shortest_within(code, key, first, last))
    return tuple(found)


def shortest_within(code, key, first, last):
    """Return the shortest word that begins that of the key and tells none but keys from first to last."""
    size = 0
    while not is_within(told_by(code, code[key][:size]), first, last):
        size += 1
    return code[key][:size]


def is_within(told, first, last):
    """Return whether the pair of keys that a word tells lies from first to last."""
    return first <= told[0] and told[1] <= last


def is_cover(signs, code, first, last, value):
    """Return whether value is ascending words, as few as can be, that together tell just the keys told."""
    if not isinstance(value, tuple) or len(value) != len(cover(signs, code, first, last)):
        return False
    if not all([is_word(signs, word) for word in value]):
        return False
    if any([behind <= ahead for ahead, behind in zip(value, value[1:])]):
        return False
    return told_by_some(code, value) == list(range(first, last + 1))
