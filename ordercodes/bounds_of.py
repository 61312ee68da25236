"""Rows under all weights within a box: how far from the best, and rows mended by the fewest signs."""

from ordercodes.bounds import MAX_LONG
from ordercodes.digits import as_digits
from ordercodes.kinds import is_whole
from ordercodes.least import deepest, least_of_signs, ranked
from ordercodes.rows import first_code, row_error
from ordercodes.totals import total


def regret(signs, row, box):
    """Return how far the total of the row can be above the least one; raise NoFit if the row does not fit."""
    # Called for its NoFit.
    first_code(signs, row)
    lows, highs = [low for low, _ in box], [high for _, high in box]
    return total(highs, row) - least_to_show(signs, row, lows, highs)


def worst(signs, row, box):
    """Return weights and a row by which the total of this row is furthest above; raise NoFit if it does not fit."""
    # Called for its NoFit.
    first_code(signs, row)
    base = most_of_use(signs, row) + 1
    lows, highs = ranked([low for low, _ in box], base), ranked([high for _, high in box], base)
    other = as_digits(base, least_to_show(signs, row, lows, highs), len(row))
    weights = [high if length < own else low for own, length, (low, high) in zip(row, other, box)]
    return (tuple(weights), other)


def most_of_use(signs, row):
    """Return the most signs of words that another row with as many keys need have."""
    return min(MAX_LONG, deepest(signs, len(row)))


def least_to_show(signs, row, lows, highs):
    """Return the least total of all rows, each key having the weight, of its low and high one, that shows most.

    That is the high weight for the signs of the own length, and the low one for those that come to them: what
    another row saves by these costs is how far its total can be below that of the own row.
    """
    return least_of_signs(signs, [0] * len(row), rates_by(row, highs, lows, most_of_use(signs, row)))


def rates_by(row, within, above, most):
    """Return, for each of so many signs, what it costs each key.

    The items of within tell what the signs of the own length cost, those of above what the signs that come to them do.
    """
    return [[one if length < own else other for own, one, other in zip(row, within, above)] for length in range(most)]


def shown(signs, row, box, value):
    """Return by how much the row is above the other one of value by its weights, None if value is no such pair."""
    if not isinstance(value, tuple) or len(value) != 2:
        return None
    weights, other = value
    if not are_within(weights, box) or row_error(signs, other) is not None or len(other) != len(row):
        return None
    return total(weights, row) - total(weights, other)


def are_within(value, box):
    """Return whether value is weights within the box."""
    if not isinstance(value, tuple) or len(value) != len(box):
        return False
    return all([is_whole(weight, low, high) for weight, (low, high) in zip(value, box)])


def always_best(signs, row, box):
    """Return whether the row fits and has the least total for all weights within the box."""
    return row_error(signs, row) is None and regret(signs, row, box) == 0


def mended(signs, row, most):
    """Return the first of the rows that fit with the least sum, no length being less than here, None if none fits."""
    size = len(row)
    units = ranked([1] * size, most + 1)
    # A key that stands alone under a word shorter than its own length gets a word of this length there.
    costs = [unit * own for unit, own in zip(units, row)]
    least = least_of_signs(signs, costs, rates_by(row, [0] * size, units, min(most, deepest(signs, size))))
    return None if least is None else as_digits(most + 1, least, size)
