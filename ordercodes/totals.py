"""Totals of rows by weights: the least one, the first row that has it, and ledgers that show that none is less."""

from ordercodes.bounds import MAX_LONG
from ordercodes.digits import as_digits
from ordercodes.kinds import is_number
from ordercodes.least import FAR, least_tables, ranked, side_by_side
from ordercodes.rows import row_error


def total(weights, row):
    """Return the sum of the weights, each as often as the length tells."""
    return sum([weight * length for weight, length in zip(weights, row)])


def least_total(signs, weights, most):
    """Return the least total of all codes with words of at most so many signs, None if there is no such code."""
    least = least_tables(signs, weights, most)[-1][0][-1]
    return least if least < FAR else None


def best_row(signs, weights, most):
    """Return the first of the rows with the least total, None if there is no code."""
    least = least_total(signs, ranked(weights, most), most)
    return None if least is None else as_digits(most + 1, least, len(weights))


def is_best(signs, weights, row, most):
    """Return whether the row fits, has no length above most, and has the least total."""
    if row_error(signs, row) is not None or max(row) > most:
        return False
    return total(weights, row) == least_total(signs, weights, most)


def ledger(signs, weights):
    """Return the ledger that tells the least total of each stretch."""
    table = least_tables(signs, weights, MAX_LONG)[-1]
    return tuple([tuple(row[2:]) for row in table[:len(weights) - 1]])


def is_ledger(signs, weights, value):
    """Return whether value is a ledger for the weights that holds."""
    size = len(weights)
    if not has_ledger_form(value, size):
        return False
    table = [[0, 0, *row] for row in value] + [[0, 0], [0]]
    cuts = side_by_side(signs, table)
    # The cuts contain a stretch left whole, too; with its weights it is not below its own number.
    return all([table[key][many] <= sum(weights[key:key + many]) + cuts[key][many]
                for key in range(size) for many in range(2, size - key + 1)])


def has_ledger_form(value, size):
    """Return whether value is tuples of integers, as many as a ledger for so many keys has."""
    if not isinstance(value, tuple) or len(value) != size - 1:
        return False
    return all([is_number_row(row, size - 1 - key) for key, row in enumerate(value)])


def is_number_row(value, many):
    """Return whether value is a tuple of so many integers."""
    return isinstance(value, tuple) and len(value) == many and all([is_number(item) for item in value])
