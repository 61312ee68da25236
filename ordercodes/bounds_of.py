"""Rows under all weights within a box: how far from the best, and rows mended by the fewest signs."""

from ordercodes.bounds import MAX_LONG
from ordercodes.digits import as_digits, power
from ordercodes.kinds import is_whole
from ordercodes.least import FAR, lone_keys, side_by_side
from ordercodes.rows import first_code, row_error
from ordercodes.totals import total


def regret(signs, row, box):
    """Return how far the total of the row can be above the least one; raise NoFit if the row does not fit."""
    weights, other = worst(signs, row, box)
    return total(weights, row) - total(weights, other)


def worst(signs, row, box):
    """Return weights and a row by which the total of this row is furthest above; raise NoFit if it does not fit."""
    # Called for its NoFit.
    first_code(signs, row)
    # More signs never cost less, so no word need have more than one sign for each cut between keys.
    most = min(MAX_LONG, len(row) - 1)
    other = cheapest(signs, [costs_within(own, bounds, most) for own, bounds in zip(row, box)])
    weights = [high if length < own else low for own, length, (low, high) in zip(row, other, box)]
    return (tuple(weights), other)


def costs_within(own, bounds, most):
    """Return what each length up to most costs a key with the own length, at the weight that shows most.

    That is the high weight for the signs of the own length, and the low one for those that come to them: what
    another row saves by these costs is how far its total can be below that of the own row.
    """
    low, high = bounds
    return [high * min(length, own) + low * max(length - own, 0) for length in range(most + 1)]


def shown(signs, row, box, value):
    """Return by how much the row is above the other one of value by its weights, None if value is no such pair."""
    if not isinstance(value, tuple) or len(value) != 2:
        return None
    weights, other = value
    if not are_within(weights, box) or row_error(signs, other) is not None or len(other) != len(row):
        return None
    return total(weights, row) - total(weights, other)


def are_within(value, box):
    """Return whether value is weights within the box."""
    if not isinstance(value, tuple) or len(value) != len(box):
        return False
    return all([is_whole(weight, low, high) for weight, (low, high) in zip(value, box)])


def always_best(signs, row, box):
    """Return whether the row fits and has the least total for all weights within the box."""
    return row_error(signs, row) is None and regret(signs, row, box) == 0


def mended(signs, row, most):
    """Return the first of the rows that fit with the least sum, no length being less than here, None if none fits."""
    return cheapest(signs, [[length if length >= own else FAR for length in range(most + 1)] for own in row])


def cheapest(signs, costs):
    """Return the row that fits for which the sum of the costs is least, of several the first one; None if none fits.

    The item [key][length] of costs is what this length costs the key, FAR if the key may not have it.
    """
    size = len(costs)
    base = len(costs[0])
    # The lengths are written as digits behind the cost, so that of equal costs that of the first row is least.
    whole = power(base, size)
    numbers = [[cost * whole + length * power(base, size - 1 - key) for length, cost in enumerate(own)]
               for key, own in enumerate(costs)]
    least = least_sum(signs, numbers)
    return as_digits(base, least, size) if least < FAR else None


def least_sum(signs, numbers):
    """Return the least sum of numbers of the rows that fit, the item [key][length] being the number of the length."""
    table = lone_keys([own[-1] for own in numbers])
    for length in range(len(numbers[0]) - 2, -1, -1):
        table = side_by_side(signs, table)
        for key, own in enumerate(numbers):
            table[key][1] = min(table[key][1], own[length])
    return table[0][-1]
