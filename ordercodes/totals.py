"""Totals of rows by weights: the least one, the first row that has it, and ledgers that show that none is less."""

from ordercodes.digits import as_digits, power
from ordercodes.kinds import is_number
from ordercodes.least import cut_whole, deepest, least_table, low_tables, ranked, side_by_side, steps_to, sums_of
from ordercodes.rows import row_error


def total(weights, row):
    """Return the sum of the weights, each as often as the length tells."""
    return sum([weight * length for weight, length in zip(weights, row)])


def least_total(signs, weights, most):
    """Return the least total of all codes with words of at most so many signs, None if there is no such code."""
    row = best_row(signs, weights, most)
    return None if row is None else total(weights, row)


def best_row(signs, weights, most):
    """Return the first of the rows with the least total, None if there is no code."""
    size = len(weights)
    if power(signs, most) < size:
        return None
    base = max(most, deepest(signs, size)) + 1
    ranks = ranked(weights, base)
    known = most * (signs - 1) if is_close(signs, size, most) else size
    free = least_table(signs, ranks, known)
    if known == size:
        row = as_digits(base, free[size][0], size)
        if max(row) <= most:
            return row
    return as_digits(base, least_within(signs, ranks, free, most), size)


def is_close(signs, size, most):
    """Return whether the best row for so many keys, if words may have any length, is likely to be above most.

    It is looked for only if it is not, as it helps only if it is within most; a wrong guess costs time alone.
    """
    return most < deepest(signs, size) and power(signs, most - 1) <= 2 * size


def least_within(signs, weights, free, most):
    """Return the least total with words of at most most signs, which are fewer than some row may need.

    The table free is that of words with any number of signs; sizes above most * (signs - 1) are not asked for.
    """
    size = len(weights)
    # A sign less behind a word is a sign more up to its end, and beside that one there are keys under all others.
    largest = [size - ahead * (signs - 1) for ahead in range(most - 1, 0, -1)]
    return sum(weights) + cut_whole(signs, low_tables(signs, weights, free, largest)[-1], size)


def is_best(signs, weights, row, most):
    """Return whether the row fits, has no length above most, and has the least total."""
    if row_error(signs, row) is not None or max(row) > most:
        return False
    return total(weights, row) == least_total(signs, weights, most)


def ledger(signs, weights):
    """Return the ledger that tells the least total of each stretch."""
    size = len(weights)
    # No word of so few keys need be longer than MAX_LONG.
    table = least_table(signs, weights, size)
    return tuple([tuple([table[many][key] for many in range(2, size - key + 1)]) for key in range(size - 1)])


def is_ledger(signs, weights, value):
    """Return whether value is a ledger for the weights that holds."""
    size = len(weights)
    if not has_ledger_form(value, size):
        return False
    table = [[0] * (size + 1), [0] * size]
    table += [[value[key][many - 2] for key in range(size - many + 1)] for many in range(2, size + 1)]
    tables = {1: table}
    for one, other in steps_to(signs):
        # No keys have a number, too, so these are the cuts into so many stretches or fewer.
        tables[one + other] = [side_by_side(tables[one], tables[other], many) for many in range(size + 1)]
    # They contain a stretch left whole, too; with its weights it is not below its own number.
    sums = sums_of(weights, size)
    return all([number <= own + cut for many in range(2, size + 1)
                for number, own, cut in zip(table[many], sums[many], tables[signs][many])])


def has_ledger_form(value, size):
    """Return whether value is tuples of integers, as many as a ledger for so many keys has."""
    if not isinstance(value, tuple) or len(value) != size - 1:
        return False
    return all([is_number_row(row, size - 1 - key) for key, row in enumerate(value)])


def is_number_row(value, many):
    """Return whether value is a tuple of so many integers."""
    return isinstance(value, tuple) and len(value) == many and all([is_number(item) for item in value])
