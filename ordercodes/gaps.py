"""What is free between the words of a code, keys put into its gaps, and pages."""

from ordercodes.bounds import MAX_KEYS
from ordercodes.codes import code_error, parted
from ordercodes.digits import as_digits, as_number, power
from ordercodes.errors import TooMany


def free(signs, code):
    """Return, for each gap of the code, the free words that lie in it."""
    return tuple([tuple(free_in(signs, code, gap)) for gap in range(len(code) + 1)])


def free_in(signs, code, gap):
    """Return the free words that lie in the gap in ascending order."""
    ahead = code[gap - 1] if gap > 0 else None
    behind = code[gap] if gap < len(code) else None
    return free_between(signs, ahead, behind)


def free_between(signs, ahead, behind):
    """Return the free words between two neighbours in ascending order, None standing for no word there."""
    if ahead is None:
        return [()] if behind is None else free_ahead(behind, 0)
    if behind is None:
        return free_behind(signs, ahead, 0)
    place = len(parted(ahead, behind)) - 1
    middle = [ahead[:place] + (sign,) for sign in range(ahead[place] + 1, behind[place])]
    return free_behind(signs, ahead, place + 1) + middle + free_ahead(behind, place + 1)


def free_ahead(word, first):
    """Return the words beside the word that are below it and differ at the place first or later."""
    return [word[:place] + (sign,) for place in range(first, len(word)) for sign in range(word[place])]


def free_behind(signs, word, first):
    """Return the words beside the word that are above it and differ at the place first or later."""
    return [word[:place] + (sign,) for place in range(len(word) - 1, first - 1, -1)
            for sign in range(word[place] + 1, signs)]


def room(signs, code, gap, most):
    """Return how many words of at most so many signs can be put into the gap, all others staying."""
    return sum([power(signs, most - len(word)) for word in free_in(signs, code, gap) if len(word) <= most])


def put_in(signs, code, gap, many, most):
    """Return a code with so many keys more in the gap and the fewest words changed; raise TooMany if there is none."""
    kept = kept_keys(signs, code, gap, many, most)
    words = {number_behind(key, gap, many): code[key] for key in kept}
    found = []
    place = 0
    for number in range(len(code) + many):
        # A new word is the first one of just so many signs behind the word ahead: that leaves the most room.
        word = words[number] if number in words else as_digits(signs, place, most)
        place = places_of(signs, word, most)[1]
        found.append(word)
    return tuple(found)


def changed(signs, code, gap, many, most):
    """Return how many keys have another word than before when keys are put in; raise TooMany if they cannot be."""
    return len(code) - len(kept_keys(signs, code, gap, many, most))


def is_put(signs, code, gap, many, most, value):
    """Return whether value is a code with so many keys more in the gap and the fewest words changed."""
    if code_error(signs, value) is not None or len(value) != len(code) + many:
        return False
    if max([len(word) for word in value]) > most:
        return False
    # Value shows that so many keys have words, so what follows raises no TooMany.
    others = [key for key, word in enumerate(code) if value[number_behind(key, gap, many)] != word]
    return len(others) == changed(signs, code, gap, many, most)


def number_behind(key, gap, many):
    """Return the number that an old key has when so many keys are put into the gap."""
    return key if key < gap else key + many


def kept_keys(signs, code, gap, many, most):
    """Return the old keys, as many as can be, that keep their words; raise TooMany if there is no code."""
    size = len(code) + many
    end = power(signs, most)
    if size > min(MAX_KEYS, end):
        raise TooMany()
    # Ahead of all keys stands nothing, which ends at the first place; behind them something that begins at the last.
    chains = [(-1, 0, ())]
    for key, word in enumerate(code):
        first, behind = places_of(signs, word, most)
        number = number_behind(key, gap, many)
        chain = longest_chain(chains, number, first)
        if chain is not None:
            chains.append((number, behind, chain + (key,)))
    return longest_chain(chains, size, end)


def longest_chain(chains, number, first):
    """Return the most keys kept ahead of the key with this number whose word begins at this place, None if it cannot.

    A chain tells the number of its last key, the place behind the word of this key, and all its keys.
    """
    # Each key between two kept ones needs a place between their words.
    fitting = [keys for last, behind, keys in chains if number - last - 1 <= first - behind]
    return max(fitting, key=len, default=None)


def places_of(signs, word, most):
    """Return the place at which the word begins, and the one behind it, among all words of just so many signs."""
    size = power(signs, most - len(word))
    first = as_number(signs, word) * size
    return (first, first + size)


def pages(code, size):
    """Return the keys with which pages begin, by the shortest words that part them."""
    # For each key, from the last one on: the least sum of lengths, and the keys behind it with which pages begin.
    best = {len(code): (0, ())}
    for key in range(len(code) - 1, -1, -1):
        best[key] = min([with_page(code, end, best[end]) for end in range(key + 1, min(key + size, len(code)) + 1)])
    return best[0][1]


def with_page(code, end, told):
    """Return the sum of lengths and the keys with which pages begin if a page ends ahead of this key."""
    if end == len(code):
        return told
    return (told[0] + len(parted(code[end - 1], code[end])), (end,) + told[1])
