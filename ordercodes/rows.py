"""Rows of lengths: which fit, the first and the last code with them, and all codes counted and numbered."""

from ordercodes.bounds import MAX_KEYS, MAX_LONG
from ordercodes.codes import lengths
from ordercodes.digits import as_digits, power
from ordercodes.errors import NoCode
from ordercodes.fits import first_words, last_words, least_words, nothing_held
from ordercodes.kinds import are_whole, is_whole
from ordercodes.ways import counted, cuts_of, first_counted, only_end, tables_of, ways_between


def row_error(signs, value):
    """Return None if value is a row that fits, "row" if it is no row, else the first key that does not fit."""
    if not are_whole(value, 0, MAX_LONG) or not 1 <= len(value) <= MAX_KEYS:
        return "row"
    many = len(least_words(signs, value, nothing_held(value)))
    return None if many == len(value) else many


def first_code(signs, row):
    """Return the first code with these lengths; raise NoFit if there is none."""
    return first_words(signs, row, nothing_held(row))


def last_code(signs, row):
    """Return the last code with these lengths; raise NoFit if there is none."""
    return last_words(signs, row, nothing_held(row))


def words_of(signs, row, key):
    """Return the least and the greatest word of the key in the codes with these lengths."""
    return (first_code(signs, row)[key], last_code(signs, row)[key])


def count(signs, row):
    """Return how many codes have these lengths."""
    return all_ways(signs, tables_of(signs, row), len(row))


def code_at(signs, row, value):
    """Return the code with this number among all with these lengths; raise NoCode if there is none."""
    tables = tables_of(signs, row)
    many = all_ways(signs, tables, len(row))
    if not is_whole(value, 0, many - 1):
        raise NoCode(value)
    later = many - 1 - value
    words = []
    for key, length in enumerate(row):
        word, greater = word_ahead_of(signs, tables, key, length, len(row), later)
        words.append(word)
        later = later - greater
    return tuple(words)


def number_of(signs, code):
    """Return the number of the code among all with its lengths."""
    tables = tables_of(signs, lengths(code))
    size = len(code)
    # A later code has, at the first key whose word differs, this and all further words behind the word here.
    later = sum([ways_between(signs, tables, word, None, key, size) for key, word in enumerate(code)])
    return all_ways(signs, tables, size) - 1 - later


def all_ways(signs, tables, size):
    """Return in how many ways all keys can get words."""
    return ways_between(signs, tables, None, None, 0, size)


def word_ahead_of(signs, tables, key, length, size, later):
    """Return a word of this key and the number of ways to put the keys from it on behind that word.

    The word has this length, and is the least one behind which there are at most as many ways as told.
    """
    ways = only_end(size - key)
    word = ()
    for reached, table in tables:
        if reached > length:
            break
        places = reached - len(word)
        most = power(signs, places) - 1
        cuts = cuts_of(table[key:], most, ways)
        behind = most_words(cuts, most, later)
        ways = counted(cuts, behind)
        word = word + as_digits(signs, most - behind, places)
    return (word, ways[0])


def most_words(cuts, most, later):
    """Return the greatest number of words, up to most, under which there are at most as many ways as told."""
    low, high = 0, most
    while low < high:
        middle = (low + high + 1) // 2
        if first_counted(cuts, middle) <= later:
            low = middle
        else:
            high = middle - 1
    return low
