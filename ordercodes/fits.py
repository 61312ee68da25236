"""The least and the greatest words with told lengths, where some words may be held."""

from ordercodes.errors import NoFit


def nothing_held(row):
    """Return the held words of the row that hold no word."""
    return (None,) * len(row)


def first_words(signs, row, held):
    """Return the first code with these lengths that keeps the held words; raise NoFit if there is none."""
    words = least_words(signs, row, held)
    if len(words) < len(row):
        raise NoFit(len(words))
    return tuple(words)


def last_words(signs, row, held):
    """Return the last code with these lengths that keeps the held words; raise NoFit if there is none."""
    # Called for its NoFit: the turned row below would tell a key as counted from behind.
    first_words(signs, row, held)
    # Seen from behind, with the greatest sign as the least one, it is the first code of the row turned round.
    turned = [None if word is None else mirrored(signs, word) for word in held[::-1]]
    return tuple([mirrored(signs, word) for word in first_words(signs, row[::-1], turned)[::-1]])


def least_words(signs, row, held):
    """Return the least words with these lengths that keep the held ones, up to the first key that has none."""
    words = []
    for length, own in zip(row, held):
        word = next_word(signs, words[-1], length) if words else (0,) * length
        if word is None or own is not None and own < word:
            break
        words.append(word if own is None else own)
    return words


def next_word(signs, word, length):
    """Return the least word with this length behind word and all that it begins, None if there is none."""
    head = word[:length]
    while head and head[-1] == signs - 1:
        head = head[:-1]
    if not head:
        return None
    return head[:-1] + (head[-1] + 1,) + (0,) * (length - len(head))


def mirrored(signs, word):
    """Return the word with each sign counted from the greatest one."""
    return tuple([signs - 1 - sign for sign in word])
