"""What several tests use: exact comparison, odd values, and slow ways to find the same results."""

from functools import lru_cache
from itertools import product

from ordercodes.errors import NoFit

C = ((0,), (1, 0), (1, 1, 0), (1, 1, 1))


def nested(depth):
    """A tuple in a tuple in a tuple, so deep."""
    value = ()
    for _ in range(depth):
        value = (value,)
    return value


# Values that are no word, no code, no row, no joined words and no number, whatever the number of signs.
ODD = [
    None, True, False, -1, -10 ** 39, "", "0", "0 1", "a\nb", [], [0], [1, 2], [(0,), (1,)], {}, {0: 1}, {(0,): 0},
    NoFit(0), (None,), (True,), (False,), (0, True), (1, False), ("0",), ("",), ([],), ([0],), ({},), (NoFit(1),),
    (-1,), (0, -1), (10 ** 39,), (0, 10 ** 39), (-10 ** 39,), ((((0,),),),), ((0, [1]),), ([(0,)], [(1,)]),
    nested(11), ([[[[[[[[[[[]]]]]]]]]]],), tuple([None] * 9999), tuple([-1] * 9999), (17, -1), "0" * 3000,
]


def same(case, got, wanted):
    """Fail unless both are equal with the same kinds at every depth: True is not 1, a list no tuple."""
    case.assertEqual(got, wanted)
    case.assertEqual(repr(got), repr(wanted))


def only_tuples(value):
    """Tell whether value is made of tuples, integers, strings, True, False and None alone."""
    if isinstance(value, tuple):
        return all(only_tuples(item) for item in value)
    return value is None or isinstance(value, (int, str))


def fields_of(case, error, call, *told):
    """Call, fail unless just this error is raised, and return its fields."""
    with case.assertRaises(error) as caught:
        call(*told)
    case.assertIs(type(caught.exception), error)
    return dict(vars(caught.exception))


def begins(one, other):
    return len(one) <= len(other) and all(other[place] == one[place] for place in range(len(one)))


def all_words(signs, most):
    """All words of at most so many signs, ascending."""
    return sorted(word for size in range(most + 1) for word in product(range(signs), repeat=size))


def is_code(words):
    """Tell whether the words ascend and none begins another one, by a look at each two of them."""
    return all(one < other and not begins(one, other) and not begins(other, one)
               for place, one in enumerate(words) for other in words[place + 1:])


def all_rows(most_keys, most):
    """All rows of at most so many lengths up to the greatest one."""
    return [row for keys in range(1, most_keys + 1) for row in product(range(most + 1), repeat=keys)]


def all_codes(signs, row):
    """All codes with these lengths in ascending order, by going through all words."""
    found = [()]
    for length in row:
        found = [words + (word,) for words in found for word in product(range(signs), repeat=length)
                 if is_code(words[-1:] + (word,))]
    assert all(is_code(words) for words in found)
    return sorted(found)


def ways_by_place(signs, row):
    """How many codes there are, by the places at which words begin when the longest ones lie side by side."""
    longest = max(row)
    end = signs ** longest
    ways = [1] * (end + 1)
    for length in reversed(row):
        size = signs ** (longest - length)
        fewer = [0] * (end + 1)
        for place in range(end - 1, -1, -1):
            fewer[place] = fewer[place + 1]
            if place % size == 0 and place + size <= end:
                fewer[place] += ways[place + size]
        ways = fewer
    return ways[0]


def number_as_word(signs, number, length):
    """The word of this length with the number, all words of the length being numbered in ascending order."""
    word = ()
    for _ in range(length):
        word = (number % signs,) + word
        number //= signs
    return word


def word_as_number(signs, word):
    number = 0
    for sign in word:
        number = number * signs + sign
    return number


@lru_cache(maxsize=None)
def codes_within(signs, keys, most):
    """All codes with so many keys and words of at most so many signs."""
    words = all_words(signs, most)
    found = [()]
    for _ in range(keys):
        found = [code + (word,) for code in found for word in words if is_code(code[-1:] + (word,))]
    return found


@lru_cache(maxsize=None)
def rows_within(signs, keys, most):
    """All rows of codes with so many keys and words of at most so many signs, ascending."""
    return sorted({tuple(len(word) for word in code) for code in codes_within(signs, keys, most)})


def least_by_cuts(signs, costs, most):
    """The least pair of a sum of costs and the row that has it, of all rows that fit; None if there is none.

    costs[key][length] is None if the key may not have the length. It goes through all ways to cut stretches.
    """
    @lru_cache(maxsize=None)
    def under(first, end, depth):
        found = [beside(first, end, depth + 1, signs)] if depth < most else []
        if end - first == 1 and costs[first][depth] is not None:
            found.append((costs[first][depth], (depth,)))
        return min((told for told in found if told is not None), default=None)

    @lru_cache(maxsize=None)
    def beside(first, end, depth, many):
        if first == end:
            return (0, ())
        found = []
        for cut in range(first + 1, end + 1) if many else ():
            one, rest = under(first, cut, depth), beside(cut, end, depth, many - 1)
            if one is not None and rest is not None:
                found.append((one[0] + rest[0], one[1] + rest[1]))
        return min(found, default=None)

    return under(0, len(costs), 0)


def least_keeping(signs, weights, pins, most):
    """The least pair of a total and the row that has it, of all codes that keep the pins; None if there is none.

    It goes down from the word () by all signs, and through all ways to part the keys among them.
    """
    begun = {}
    for key, pin in enumerate(pins):
        for size in range(0 if pin is None else len(pin) + 1):
            begun.setdefault(pin[:size], set()).add(key)
    pinned = {key for key, pin in enumerate(pins) if pin is not None}

    @lru_cache(maxsize=None)
    def under(first, end, word, depth):
        if {key for key in pinned if first <= key < end} != begun.get(word, set()):
            return None
        found = [beside(first, end, word, depth, 0)] if depth < most else []
        if end - first == 1 and pins[first] in (None, word):
            found.append((weights[first] * depth, (depth,)))
        return min((told for told in found if told is not None), default=None)

    @lru_cache(maxsize=None)
    def beside(first, end, word, depth, sign):
        if first == end:
            return (0, ())
        if sign == signs:
            return None
        # All words that begin no pin are alike.
        next_word = word + (sign,) if word is not None and word + (sign,) in begun else None
        found = [beside(first, end, word, depth, sign + 1)]
        for cut in range(first + 1, end + 1):
            one, rest = under(first, cut, next_word, depth + 1), beside(cut, end, word, depth, sign + 1)
            if one is not None and rest is not None:
                found.append((one[0] + rest[0], one[1] + rest[1]))
        return min((told for told in found if told is not None), default=None)

    return under(0, len(pins), () if begun else None, 0)
