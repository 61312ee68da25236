"""Texts of words, codes and rows of lengths, and reading them."""

from ordercodes.bounds import MAX_KEYS, MAX_LONG
from ordercodes.codes import check_code
from ordercodes.errors import BadText

DIGITS = "0123456789"
# The text of the word that has no signs.
NO_SIGNS = "-"


def code_text(code):
    """Return the texts of the words of the code with single blanks between them."""
    return " ".join([word_text(word) for word in code])


def word_text(word):
    """Return the text of the word."""
    return "".join([str(sign) for sign in word]) if word else NO_SIGNS


def row_text(row):
    """Return the lengths in decimal with single blanks between them."""
    return " ".join([str(length) for length in row])


def read_code(signs, value):
    """Return the code of this text; raise BadText or BadIndex if it is none."""
    if not isinstance(value, str):
        raise BadText(None)
    words = []
    for number, piece in enumerate(pieces_of(value)):
        word = word_of(signs, piece)
        if word is None:
            raise BadText(number)
        words.append(word)
    check_code(signs, tuple(words))
    return tuple(words)


def read_row(value):
    """Return the row of this text; raise BadText if it is none."""
    if not isinstance(value, str):
        raise BadText(None)
    row = []
    for number, piece in enumerate(pieces_of(value)):
        length = length_of(piece)
        if length is None:
            raise BadText(number)
        row.append(length)
    if not 1 <= len(row) <= MAX_KEYS:
        raise BadText(len(row))
    return tuple(row)


def pieces_of(line):
    """Return what stands between the blanks of the line."""
    # Blanks alone part pieces, a line feed does not.
    return [piece for piece in line.split(" ") if piece != ""]


def word_of(signs, piece):
    """Return the word with this text, None if there is none."""
    if piece == NO_SIGNS:
        return ()
    word = signs_of(signs, piece)
    return None if word is None or len(word) > MAX_LONG else word


def signs_of(signs, piece):
    """Return the signs of which the piece consists, as many as there are, None if it consists of others."""
    if not all([sign in DIGITS[:signs] for sign in piece]):
        return None
    return tuple([int(sign) for sign in piece])


def length_of(piece):
    """Return the length that is written so, None if none is."""
    if not is_number_text(piece, 2) or len(piece) > 1 and piece[0] == "0":
        return None
    length = int(piece)
    return length if length <= MAX_LONG else None


def is_number_text(piece, most):
    """Return whether the piece consists of at least one digit and at most so many."""
    return 1 <= len(piece) <= most and all([sign in DIGITS for sign in piece])
