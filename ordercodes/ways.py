"""Ways to give words of told lengths to stretches of keys, counted for rows and where words are held.

A table of a length has, as its item [i][m], in how many ways the m + 1 keys from i on can get words that all
begin with one and the same word of this length; the item [i] ends with its last number that is not 0. There is
one table for each length of the row: a word of any other length stands for all words that it begins of the next
greater length of the row.

Ways are counted for a place in a code: the item i tells in how many ways the keys from i on can be put behind it.
"""

from math import comb

from ordercodes.digits import as_number, power


def tables_of(signs, row):
    """Return pairs of each length of the row, in ascending order, and its table."""
    table = [[] for _ in row]
    tables = []
    for length in sorted(set(row))[::-1]:
        if tables:
            table = table_above(table, power(signs, tables[-1][0] - length))
        for key, own in enumerate(row):
            if own == length:
                table[key] = [1]
        tables.append((length, list(table)))
    return tables[::-1]


def table_above(table, many):
    """Return the table of so many words side by side that have this table each."""
    above = [[] for _ in table]
    for first, end in runs_of(table):
        rows = table[first:end]
        columns = [with_ahead(rows, many, only_end(size)) for size in range(1, end - first + 1)]
        for place in range(end - first):
            above[first + place] = without_last_zeros([column[place] for column in columns[place:]])
    return above


def runs_of(table):
    """Return pairs of the first key and the key behind the last one of each run of keys that can be put there."""
    runs = []
    for key, row in enumerate(table):
        if row and runs and runs[-1][1] == key:
            runs[-1] = (runs[-1][0], key + 1)
        elif row:
            runs.append((key, key + 1))
    return runs


def without_last_zeros(numbers):
    """Return the numbers up to the last one that is not 0."""
    while numbers and numbers[-1] == 0:
        numbers = numbers[:-1]
    return numbers


def only_end(size):
    """Return the ways at the end of so many keys, behind which only no keys at all can be put."""
    return [0] * size + [1]


def with_ahead(table, many, ways):
    """Return the ways if, ahead of the place, keys can also be put under so many words that have this table."""
    return counted(cuts_of(table, many, ways), many)


def cuts_of(table, most, ways):
    """Return the ways to cut off, ahead of the place, 0, 1, 2 and more stretches, each to be put under a word."""
    cuts = [ways]
    while len(cuts) <= most and len(cuts[-1]) > 1:
        behind = cuts[-1]
        cut = [sum([own * rest for own, rest in zip(row, behind[key:])]) if row else 0
               for key, row in enumerate(table[:len(behind) - 1], start=1)]
        if not any(cut):
            break
        cuts.append(cut)
    return cuts


def counted(cuts, many):
    """Return the ways if the stretches cut off stand under so many words side by side, at most one under each."""
    total = cuts[0]
    for used, cut in enumerate(cuts[1:], start=1):
        # Of the words those that keys stand under are chosen.
        choices = comb(many, used)
        total = [ways + choices * more for ways, more in zip(total, cut)] + total[len(cut):]
    return total


def first_counted(cuts, many):
    """Return the first one of the ways counted likewise."""
    total = 0
    choices = 1
    for used, cut in enumerate(cuts):
        total = total + choices * cut[0]
        # Many numbers are tried with the same cuts, so the choices are not worked out anew for each cut.
        choices = choices * (many - used) // (used + 1)
    return total


def ways_between(signs, tables, ahead, behind, first, end):
    """Return in how many ways the keys from first up to end can be put between two words of lengths of the row.

    None stands for no word there. No word begins the other one, and ahead is the lesser one.
    """
    ways = only_end(end - first)
    for table, many in steps_between(signs, tables, ahead, behind):
        ways = with_ahead(table[first:], many, ways)
    return ways[0]


def steps_between(signs, tables, ahead, behind):
    """Return pairs of a table and how many words with it lie side by side, for all that lies between two words.

    The pairs follow one another from the word behind to the word ahead.
    """
    beside_ahead, middle, beside_behind = [], [], []
    low = 0
    for length, table in tables:
        whole = power(signs, length - low)
        one = number_of_part(signs, ahead, low, length)
        other = number_of_part(signs, behind, low, length)
        if not middle:
            first = -1 if one is None else one
            last = whole if other is None else other
            # Where they are the same, both words still go the same way.
            if first != last:
                middle.append((table, last - first - 1))
        else:
            if one is not None:
                beside_ahead.append((table, whole - 1 - one))
            if other is not None:
                beside_behind.append((table, other))
        low = length
    return beside_behind[::-1] + middle + beside_ahead


def number_of_part(signs, word, low, length):
    """Return the number of this part of the word among all such parts, None if there is no word so long."""
    if word is None or len(word) < length:
        return None
    return as_number(signs, word[low:length])
