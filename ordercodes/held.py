"""Codes in which some words are held: the first and the last one, how many there are, and the least total."""

from ordercodes.codes import is_word, neighbours_error
from ordercodes.digits import as_digits
from ordercodes.fits import first_words, last_words, least_words
from ordercodes.gaps import free_between
from ordercodes.least import FAR, least_tables, ranked
from ordercodes.totals import total
from ordercodes.ways import tables_of, ways_between


def held_error(signs, row, value):
    """Return None if a code with the lengths keeps value, "held" if it is no held words, else the first key in vain."""
    if not are_held(signs, row, value):
        return "held"
    many = len(least_words(signs, row, value))
    return None if many == len(row) else many


def are_held(signs, row, value):
    """Return whether value is held words for the row."""
    if not isinstance(value, tuple) or len(value) != len(row):
        return False
    return all([word is None or is_word(signs, word) and len(word) == length for word, length in zip(value, row)])


def first_held(signs, row, held):
    """Return the first code with the lengths that keeps the held words; raise NoFit if there is none."""
    return first_words(signs, row, held)


def last_held(signs, row, held):
    """Return the last code with the lengths that keeps the held words; raise NoFit if there is none."""
    return last_words(signs, row, held)


def count_held(signs, row, held):
    """Return how many codes with the lengths keep the held words."""
    if are_at_odds(held):
        return 0
    tables = tables_of(signs, row)
    many = 1
    for first, end, ahead, behind in stretches_between(held):
        many = many * ways_between(signs, tables, ahead, behind, first, end)
    return many


def least_held(signs, weights, pins, most):
    """Return the least total of the codes that keep the pins, None if there is none."""
    if are_at_odds(pins) or max([len(word) for word in pins if word is not None], default=0) > most:
        return None
    tables = least_tables(signs, weights, most)
    least = total(weights, [0 if word is None else len(word) for word in pins])
    for first, end, ahead, behind in stretches_between(pins):
        depths = [len(word) for word in free_between(signs, ahead, behind) if len(word) <= most]
        under = [(depth, tables[min(most - depth, len(tables) - 1)][first:end + 1]) for depth in depths]
        least = least + least_under(under, weights[first:end])
    return least if least < FAR else None


def best_held(signs, weights, pins, most):
    """Return the first of the rows with the least total of the codes that keep the pins, None if there is none."""
    least = least_held(signs, ranked(weights, most), pins, most)
    return None if least is None else as_digits(most + 1, least, len(weights))


def least_under(under, weights):
    """Return the least total of keys put under words, each told by its depth and its table, in their order."""
    sums = [sum(weights[:key]) for key in range(len(weights) + 1)]
    # The item i is the least total of the keys from i on under the words gone through so far, from the last one.
    least = [FAR] * len(weights) + [0]
    for depth, table in under[::-1]:
        least = [min([own + depth * (reached - sums[key]) + rest
                      for own, reached, rest in zip(table[key], sums[key:], least[key:])])
                 for key in range(len(least))]
    return least[0]


def stretches_between(words):
    """Return, for each stretch of keys ahead of, between and behind those with words, what stands around it.

    This is its first key, the key behind it, the word ahead and the word behind, None where there is none.
    """
    found = []
    first, ahead = 0, None
    for key, word in enumerate(words):
        if word is not None:
            found.append((first, key, ahead, word))
            first, ahead = key + 1, word
    return found + [(first, len(words), ahead, None)]


def are_at_odds(words):
    """Return whether some of the words cannot stand in one code in this order, None standing for no word."""
    told = [word for word in words if word is not None]
    return any([neighbours_error(ahead, word) is not None for ahead, word in zip(told, told[1:])])
