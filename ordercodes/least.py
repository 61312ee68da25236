"""The least totals of stretches of keys that stand under one word, for all modules that look for rows.

A table tells, as its item [i][m], a number of the stretch of the m keys from i on; that of no keys is 0.
A number that cannot be reached is FAR or more.
"""

from ordercodes.digits import power

# Above all totals, also where the number of a row (see ranked) is written behind them.
FAR = 10 ** 64


def least_tables(signs, weights, most):
    """Return tables of the least totals of stretches, the signs being counted from the word under which they stand.

    The first table lets no more signs come behind this word, the next one just one more, and so on, to the last
    one, which lets come as many as told: where even more tell no less, the list ends ahead of that.
    """
    sums = [sum(weights[:key]) for key in range(len(weights) + 1)]
    tables = [lone_keys([0] * len(weights))]
    for _ in range(most):
        cuts = side_by_side(signs, tables[-1])
        table = [with_one_sign(row, sums[key:]) for key, row in enumerate(cuts)]
        if table == tables[-1]:
            break
        tables.append(table)
    return tables


def with_one_sign(cuts, sums):
    """Return the numbers of the stretches from one key on, with one sign more for each key of two or more."""
    return cuts[:2] + [number + reached - sums[0] for number, reached in zip(cuts[2:], sums[2:])]


def lone_keys(numbers):
    """Return the table of a word behind which no sign comes: it is the word of one key, that has this number."""
    size = len(numbers)
    return [([0, number] + [FAR] * size)[:size + 1 - key] for key, number in enumerate(numbers)] + [[0]]


def side_by_side(signs, table):
    """Return the table of the least sums when each stretch is cut into so many stretches or fewer."""
    if signs == 1:
        return table
    half = side_by_side(signs // 2, table)
    both = pair_of(half, half)
    return pair_of(both, table) if signs % 2 == 1 else both


def pair_of(one, other):
    """Return the table of the least sums when each stretch is cut into one of the table one and one of the other."""
    size = len(one)
    columns = [[other[key][end - key] for key in range(end + 1)] for end in range(size)]
    return [[min([ahead + behind for ahead, behind in zip(row, column[key:])]) for column in columns[key:]]
            for key, row in enumerate(one)]


def ranked(weights, most):
    """Return weights by which, of the rows with the least total, the first one alone has it.

    The digits of a total by them are those of the total by the weights, then the lengths of the row;
    no length is above most.
    """
    base = most + 1
    size = len(weights)
    whole = power(base, size)
    return [weight * whole + power(base, size - 1 - key) for key, weight in enumerate(weights)]
