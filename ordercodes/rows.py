"""Rows of lengths: which fit, the first and the last code with them, and all codes counted and numbered.

Ways to put keys are counted under words: a table of a length has, as its item [i][j], in how many ways
the keys from i to j - 1 can get words that all begin with one and the same word of this length. Behind
a word there are more such words: so many of its own length, then so many of the length one less, and so on.
"""

from ordercodes.bounds import MAX_KEYS, MAX_LONG
from ordercodes.codes import lengths
from ordercodes.errors import NoCode
from ordercodes.fits import first_words, last_words, least_words, nothing_held
from ordercodes.kinds import are_whole, is_whole


def row_error(signs, value):
    """Return None if value is a row that fits, "row" if it is no row, else the first key that does not fit."""
    if not are_whole(value, 0, MAX_LONG) or not 1 <= len(value) <= MAX_KEYS:
        return "row"
    many = len(least_words(signs, value, nothing_held(value)))
    return None if many == len(value) else many


def first_code(signs, row):
    """Return the first code with these lengths; raise NoFit if there is none."""
    return first_words(signs, row, nothing_held(row))


def last_code(signs, row):
    """Return the last code with these lengths; raise NoFit if there is none."""
    return last_words(signs, row, nothing_held(row))


def words_of(signs, row, key):
    """Return the least and the greatest word of the key in the codes with these lengths."""
    return (first_code(signs, row)[key], last_code(signs, row)[key])


def count(signs, row):
    """Return how many codes have these lengths."""
    return all_ways(tables_of(signs, row))


def code_at(signs, row, value):
    """Return the code with this number among all with these lengths; raise NoCode if there is none."""
    tables = tables_of(signs, row)
    many = all_ways(tables)
    if not is_whole(value, 0, many - 1):
        raise NoCode(value)
    later = many - 1 - value
    words = []
    for key, length in enumerate(row):
        word, greater = word_ahead_of(signs, tables[:length + 1], key, later)
        words.append(word)
        later = later - greater
    return tuple(words)


def number_of(signs, code):
    """Return the number of the code among all with its lengths."""
    tables = tables_of(signs, lengths(code))
    # A later code has, at the first key whose word differs, this and all further words behind the word here.
    later = sum([ways_behind(signs, tables, word)[key] for key, word in enumerate(code)])
    return all_ways(tables) - 1 - later


def word_ahead_of(signs, tables, key, later):
    """Return a word of the key and the number of ways to put the keys from it on behind that word.

    The word has the length of the last table, and is the least one behind which there are
    at most as many ways as told.
    """
    ways = no_ways(tables)
    word = ()
    for table in tables[1:]:
        sign = signs - 1
        more = with_one_ahead(table, ways)
        while sign > 0 and more[key] <= later:
            sign -= 1
            ways = more
            more = with_one_ahead(table, ways)
        word = word + (sign,)
    return (word, ways[key])


def ways_behind(signs, tables, word):
    """Return, for each key, the number of ways to put the keys from it on behind the word."""
    ways = no_ways(tables)
    for place, sign in enumerate(word):
        for _ in range(signs - 1 - sign):
            ways = with_one_ahead(tables[place + 1], ways)
    return ways


def no_ways(tables):
    """Return the ways behind the word (), where only no keys at all can be put."""
    return [0] * (len(tables[0]) - 1) + [1]


def with_one_ahead(table, ways):
    """Return the ways if, ahead of the place where they count, keys can also be put under one word."""
    size = len(ways)
    return [sum([table[i][j] * ways[j] for j in range(i, size)]) for i in range(size)]


def all_ways(tables):
    """Return the number of ways to put all keys under the word ()."""
    return tables[0][0][-1]


def tables_of(signs, row):
    """Return the tables of the lengths from 0 up to the greatest one of the row."""
    size = len(row) + 1
    table = [[1 if i == j else 0 for j in range(size)] for i in range(size)]
    tables = []
    for length in range(max(row), -1, -1):
        table = side_by_side(table, signs)
        for key, own in enumerate(row):
            if own == length:
                table[key][key + 1] = 1
        tables.append(table)
    return tables[::-1]


def side_by_side(table, signs):
    """Return the table for so many words together, one behind another, that have this table each."""
    total = table
    for _ in range(signs - 1):
        total = pair_of(total, table)
    return total


def pair_of(one, other):
    """Return the table for a word with the table one and the word behind it with the table other."""
    size = len(one)
    return [[sum([one[i][k] * other[k][j] for k in range(i, j + 1)]) for j in range(size)] for i in range(size)]
