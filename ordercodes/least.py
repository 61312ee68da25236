"""The least sums of costs of stretches of keys that stand under one word, for all modules that look for rows.

A table tells, as its item [m][i], a number of the stretch of the m keys from i on; its item [m] is [] where it has
no numbers of so many keys. Keys stand under a word if it begins all their words.

A longer word never costs less here. So it is enough to look at codes in which of the keys under a word each stands
alone one sign further if there are no more of them than signs, and otherwise some stand under each sign: the keys
under one sign can be parted to stand under two, and none of them gets a longer word by that.
"""

from ordercodes.digits import power


def deepest(signs, size):
    """Return the most signs that words need have behind the one under which so many keys stand."""
    # Behind each of these signs but the last one stand several keys, so beside it there are others under each sign.
    return (size + signs - 3) // (signs - 1)


def least_table(signs, weights, largest):
    """Return the table of the least totals of up to so many keys, with any number of signs behind the word."""
    sums = sums_of(weights, largest)
    steps = steps_to(signs)
    tables = {one + other: [[], []] for one, other in steps}
    tables[1] = [[], [0] * len(weights)]
    for size in range(2, largest + 1):
        for one, other in steps:
            # More keys than these would leave too few for the other signs.
            if size <= largest - signs + one + other:
                tables[one + other].append(side_by_side(tables[one], tables[other], size))
        cuts = tables[signs][size] if size > signs else [0] * len(weights)
        tables[1].append([own + cut for own, cut in zip(sums[size], cuts)])
    return tables[1]


def low_tables(signs, weights, free, largest):
    """Return the tables of the least totals with at most 0, 1, 2 and so on signs behind the word.

    The items of largest tell up to how many keys stand under a word with at most 1, 2 and so on signs behind it; free
    is the table with any number of signs.
    """
    sums = sums_of(weights, max(largest, default=0))
    tables = [[[], [0] * len(weights)]]
    for height, last in enumerate(largest, start=1):
        # So few keys never need more signs.
        same = height * (signs - 1) + 1
        cuts = cut_into(signs, tables[-1], same + 1, last)
        tables.append(free[:same + 1] + [[own + cut for own, cut in zip(sums[size], numbers)]
                                         for size, numbers in enumerate(cuts, start=same + 1)])
    return tables


def least_of_signs(signs, costs, rates):
    """Return the least sum of costs of the rows that fit and have no more signs than rates tells, None if none fits.

    The items of costs are those of the keys if they have no sign; the item [length][key] of rates is what the sign
    behind so many others costs.
    """
    size = len(costs)
    if size == 1:
        return costs[0]
    sums = [costs]
    for more in rates:
        sums.append([cost + rate for cost, rate in zip(sums[-1], more)])
    length = len(rates)
    # Under a word that has all these signs stands one key, unless more signs would be of no use.
    largest = 1
    if length >= deepest(signs, size):
        # From some length on all further signs cost the same, so one table tells all that stands there.
        while length > 0 and rates[length - 1] == rates[-1]:
            length -= 1
        largest = size - length * (signs - 1)
    table = [[own + number for own, number in zip(alone, numbers)] for alone, numbers in
             zip(sums_of(sums[length], largest), least_table(signs, rates[-1], largest))]
    for ahead in range(length - 1, 0, -1):
        table = table_above(signs, table, sums[ahead], size - ahead * (signs - 1))
    return cut_whole(signs, table, size) if length > 0 else table[size][0]


def table_above(signs, table, alone, largest):
    """Return the table of stretches of up to so many keys under a word, by the one of words that are a sign longer.

    The items of alone are the numbers of the keys that stand alone.
    """
    return [[], alone] + sums_of(table[1], signs)[2:] + cut_into(signs, table, signs + 1, largest)


def cut_whole(parts, table, size):
    """Return the least sum of all keys, as many as told, cut into so many of the table, None if they cannot be."""
    # For each key that is reached by the parts so far, the least sum of those ahead of it.
    reached = {0: 0}
    for left in range(parts - 1, -1, -1):
        further = {}
        # Each part that is left takes a key at least, and the last one ends with the last key.
        for end in range(size if left == 0 else parts - left, size - left + 1):
            sums = [number + table[end - cut][cut] for cut, number in reached.items()
                    if cut < end < cut + len(table) and table[end - cut]]
            if sums:
                further[end] = min(sums)
        reached = further
    return reached.get(size)


def cut_into(parts, table, first, last):
    """Return, for each size from first to last, the least sums of stretches cut into so many of the table."""
    if first > last:
        return []
    tables = {1: table}
    for one, other in steps_to(parts):
        least = first if one + other == parts else 0
        most = last - parts + one + other
        tables[one + other] = [side_by_side(tables[one], tables[other], size) for size in range(least, most + 1)]
    return tables[parts]


def steps_to(parts):
    """Return pairs of how many parts are put side by side with how many others, to come to so many from one."""
    if parts == 1:
        return []
    half = parts // 2
    return steps_to(parts - 1) + [(parts - 1, 1)] if parts % 2 == 1 else steps_to(half) + [(half, half)]


def side_by_side(one, other, size):
    """Return the least sums of stretches of this size, each cut into one of the table one and one of the other."""
    cuts = range(max(0, size + 1 - len(other)), min(size + 1, len(one)))
    # For each cut the sums of all stretches, then for each stretch the least one of all cuts.
    sums = [[ahead + behind for ahead, behind in zip(one[cut], other[size - cut][cut:])]
            for cut in cuts if one[cut] and other[size - cut]]
    return [min(told) for told in zip(*sums)]


def sums_of(numbers, largest):
    """Return the table of the sums of the numbers of up to so many keys."""
    sums = [[], list(numbers)]
    for size in range(2, largest + 1):
        sums.append([ahead + number for ahead, number in zip(sums[-1], numbers[size - 1:])])
    return sums


def ranked(weights, base):
    """Return weights by which, of the rows with the least total, the first one alone has it.

    The digits of a total by them are those of the total by the weights, then the lengths of the row, as many as
    there are keys; no length is as great as the base.
    """
    ranks = []
    place = 1
    whole = power(base, len(weights))
    for weight in weights[::-1]:
        ranks.append(weight * whole + place)
        place = place * base
    return ranks[::-1]
