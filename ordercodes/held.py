"""Codes in which some words are held: the first and the last one, how many there are, and the least total."""

from ordercodes.codes import is_word, neighbours_error, parted
from ordercodes.digits import as_digits
from ordercodes.fits import first_words, last_words, least_words
from ordercodes.least import deepest, least_table, low_tables, ranked, sums_of
from ordercodes.totals import total
from ordercodes.ways import tables_of, ways_between

# Above all totals, also where a row is written behind them (see ranked).
FAR = 1000 ** 64


def held_error(signs, row, value):
    """Return None if a code with the lengths keeps value, "held" if it is no held words, else the first key in vain."""
    if not are_held(signs, row, value):
        return "held"
    many = len(least_words(signs, row, value))
    return None if many == len(row) else many


def are_held(signs, row, value):
    """Return whether value is held words for the row."""
    if not isinstance(value, tuple) or len(value) != len(row):
        return False
    return all([word is None or is_word(signs, word) and len(word) == length for word, length in zip(value, row)])


def first_held(signs, row, held):
    """Return the first code with the lengths that keeps the held words; raise NoFit if there is none."""
    return first_words(signs, row, held)


def last_held(signs, row, held):
    """Return the last code with the lengths that keeps the held words; raise NoFit if there is none."""
    return last_words(signs, row, held)


def count_held(signs, row, held):
    """Return how many codes with the lengths keep the held words."""
    if are_at_odds(held):
        return 0
    tables = tables_of(signs, row)
    many = 1
    for first, end, ahead, behind in stretches_between(held):
        many = many * ways_between(signs, tables, ahead, behind, first, end)
    return many


def least_held(signs, weights, pins, most):
    """Return the least total of the codes that keep the pins, None if there is none."""
    row = best_held(signs, weights, pins, most)
    return None if row is None else total(weights, row)


def best_held(signs, weights, pins, most):
    """Return the first of the rows with the least total of the codes that keep the pins, None if there is none."""
    if are_at_odds(pins) or max([len(word) for word in pins if word is not None], default=0) > most:
        return None
    row = ()
    for first, end, ahead, behind in stretches_between(pins):
        if first < end:
            depths = [depth for depth in free_depths(signs, ahead, behind, end - first) if depth <= most]
            lengths = best_under(signs, weights[first:end], depths, most)
            if lengths is None:
                return None
            row = row + lengths
        if behind is not None:
            row = row + (len(behind),)
    return row


def free_depths(signs, ahead, behind, many):
    """Return the lengths of the free words between two neighbours under which so many keys may stand, in their order.

    Of the words beside each neighbour these are the innermost ones, as many as there are keys: further out they are
    not shorter. None stands for no word there.
    """
    if ahead is None and behind is None:
        return [0]
    place = len(parted(ahead, behind)) if ahead is not None and behind is not None else 0
    middle = behind[place - 1] - ahead[place - 1] - 1 if place > 0 else 0
    beside_ahead = depths_from(place, [signs - 1 - sign for sign in ahead or ()])
    beside_behind = depths_from(place, behind or ())
    return beside_ahead[:many][::-1] + [place] * min(middle, many) + beside_behind[:many]


def depths_from(place, counts):
    """Return as many lengths of words that end at each place from the one told on as its item of counts tells."""
    return [depth for depth in range(place + 1, len(counts) + 1) for _ in range(counts[depth - 1])]


def best_under(signs, weights, depths, most):
    """Return the first of the rows with the least total of keys put under words of these lengths in their order.

    None if there is no row without a length above most.
    """
    if not depths:
        return None
    size = len(weights)
    deep = deepest(signs, size)
    base = most + deep + 1
    ranks = ranked(weights, base)
    free = least_table(signs, ranks, size)
    least = least_under(ranks, [(depth, free) for depth in depths])
    if max(as_digits(base, least, size)) > most:
        # Only now that a word is too long it is asked how many signs may come behind each of the words.
        tables = low_tables(signs, ranks, free, [size] * min(most, deep - 1)) + [free] * most
        least = least_under(ranks, [(depth, tables[most - depth]) for depth in depths])
    return as_digits(base, least, size) if least < FAR else None


def least_under(weights, under):
    """Return the least total of keys put under words, FAR or more if they cannot be.

    The words are told in their order, each by its length and the table of keys put under it.
    """
    sums = sums_of(weights, len(weights))
    # The item i is the least total of the keys from i on under the words gone through so far, from the last one.
    least = [FAR] * len(weights) + [0]
    for depth, table in under[:0:-1]:
        least = with_word(depth, table, sums, least, len(least))
    # Under the first word, or behind it, stand all keys.
    depth, table = under[0]
    return with_word(depth, table, sums, least, 1)[0]


def with_word(depth, table, sums, least, many):
    """Return the least totals of the keys from each of the first so many on if a word may take some of them, too."""
    found = [least[:many]]
    for size in range(1, len(table)):
        numbers = [own + depth * reached + rest
                   for own, reached, rest in zip(table[size][:many], sums[size], least[size:])]
        # Too near to the last key there are not so many keys.
        found.append(numbers + [FAR] * (many - len(numbers)))
    return [min(numbers) for numbers in zip(*found)]


def stretches_between(words):
    """Return, for each stretch of keys ahead of, between and behind those with words, what stands around it.

    This is its first key, the key behind it, the word ahead and the word behind, None where there is none.
    """
    found = []
    first, ahead = 0, None
    for key, word in enumerate(words):
        if word is not None:
            found.append((first, key, ahead, word))
            first, ahead = key + 1, word
    return found + [(first, len(words), ahead, None)]


def are_at_odds(words):
    """Return whether some of the words cannot stand in one code in this order, None standing for no word."""
    told = [word for word in words if word is not None]
    return any([neighbours_error(ahead, word) is not None for ahead, word in zip(told, told[1:])])
