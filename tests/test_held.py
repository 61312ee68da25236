"""[25] [26] Held words and pins: the codes that keep them, how many there are, and the least total."""

from itertools import product
from random import Random
from unittest import TestCase

from ordercodes.bounds import MAX_WEIGHT
from ordercodes.codes import code_error, is_start, lengths
from ordercodes.errors import NoFit
from ordercodes.held import best_held, count_held, first_held, held_error, last_held, least_held
from ordercodes.rows import code_at, count, first_code, last_code, row_error, words_of
from ordercodes.totals import best_row, least_total, total
from tests.helper import (
    ODD, C, all_codes, all_rows, all_words, codes_within, fields_of, nested, number_as_word, only_tuples, same,
    word_as_number,
)

BIG = MAX_WEIGHT
GREAT = [(2, (16,) * 16), (6, (16,) * 16), (6, (16, 15) * 8), (5, tuple(range(1, 17))), (3, tuple(range(16, 0, -1))),
         (2, (6, 16, 9, 5, 16, 4, 12, 5, 7, 16, 3, 6, 11, 16, 4, 6)), (2, (4,) * 16), (6, (2, 3, 2, 4, 2, 2, 3))]


def keeps(code, held):
    return all(word is None or word == one for word, one in zip(held, code))


def all_held(signs, row):
    """All held words for the row."""
    return product(*[[None, *product(range(signs), repeat=length)] for length in row])


def some_held(row, code):
    """Held words that the code keeps: none, all, the first, the last, and some between."""
    size = len(row)
    seed = Random(size)
    lots = [(), range(size), (0,), (size - 1,), (size // 2,), range(0, size, 2), range(1, size, 3)]
    lots += [[key for key in range(size) if seed.random() < 0.3] for _ in range(3)]
    return [tuple(word if key in lot else None for key, word in enumerate(code)) for lot in lots]


class SmallHeldTest(TestCase):
    CASES = [(2, 1, 3, 1), (2, 2, 3, 1), (2, 3, 2, 1), (3, 2, 2, 1), (2, 3, 3, 5), (2, 4, 2, 9), (6, 2, 1, 1), (4, 3, 1, 1)]

    def test_all_that_is_told_by_going_through_all_codes(self):
        for signs, keys, most, part in self.CASES:
            for row in all_rows(keys, most)[::part]:
                codes = all_codes(signs, row)
                heads = [all_codes(signs, row[:size]) for size in range(1, len(row) + 1)]
                for held in list(all_held(signs, row))[::part]:
                    self.check(signs, row, held, [code for code in codes if keeps(code, held)], heads)

    def check(self, signs, row, held, codes, heads):
        same(self, count_held(signs, row, held), len(codes))
        if codes:
            same(self, held_error(signs, row, held), None)
            same(self, (first_held(signs, row, held), last_held(signs, row, held)), (codes[0], codes[-1]))
            return
        kept = [any(keeps(code, held) for code in head) for head in heads]
        key = kept.index(False)
        same(self, held_error(signs, row, held), key)
        same(self, fields_of(self, NoFit, first_held, signs, row, held), {"key": key})
        same(self, fields_of(self, NoFit, last_held, signs, row, held), {"key": key})

    def test_several_lengths(self):
        for signs, row in [(2, (3, 2, 3)), (2, (4, 2, 3)), (3, (1, 2, 1)), (2, (2, 3, 3, 1)), (2, (3, 1, 3)),
                          (2, (3, 3, 4))]:
            codes = all_codes(signs, row)
            heads = [all_codes(signs, row[:size]) for size in range(1, len(row) + 1)]
            for held in all_held(signs, row):
                if sum(word is not None for word in held) < 3:
                    self.check(signs, row, held, [code for code in codes if keeps(code, held)], heads)


class HeldErrorTest(TestCase):
    def test_none_held_is_as_for_the_row(self):
        for signs in (2, 3, 6):
            for row in [(1, 1), (1, 2, 3, 3), (1, 1, 1), (2, 1, 2), (0,), (0, 0), (16,) * 16, (4,) * 15 + (3,), (1,) * 7]:
                same(self, held_error(signs, row, (None,) * len(row)), row_error(signs, row))

    def test_rows_of_the_document(self):
        same(self, held_error(2, (3, 2, 3), (None, (1, 0), None)), None)
        same(self, held_error(2, (3, 2, 3), (None, (0, 0), None)), 1)
        same(self, held_error(2, (3, 2, 3), (None, (1,), None)), "held")

    def test_held_words_at_odds(self):
        same(self, held_error(2, (2, 2), ((1, 0), (0, 1))), 1)
        same(self, held_error(2, (2, 2), ((1, 0), (1, 0))), 1)
        same(self, held_error(2, (1, 2), ((1,), (1, 0))), 1)
        same(self, held_error(2, (2, 1), ((1, 0), (1,))), 1)
        same(self, held_error(2, (2, 1), ((0, 1), (1,))), None)
        same(self, held_error(2, (1, 2, 2), ((0,), None, (1, 0))), 2)
        same(self, held_error(2, (1, 2, 2), ((1,), None, (1, 1))), 1)
        same(self, held_error(2, (2, 2, 2), (None, (1, 1), None)), 2)
        for held in [((1, 0), (0, 1)), ((1, 0), (1, 0))]:
            same(self, count_held(2, (2, 2), held), 0)

    def test_values_that_are_no_held_words(self):
        row = (1, 2, 2)
        good = ((0,), None, (1, 1))
        wrong = [(), good[:2], good + (None,), list(good), ([0], None, None), ((0, 0), None, None), ((), None, None),
                 ((False,), None, None), ((2,), None, None), (None, (1, True), None), (None, None, (0, -1)),
                 (None, None, "11"), (None, None, (1, (1,))), (None, None, 3), (True, None, None), (False, None, None), (good,),
                 "held", 0, 1, C, (None, None, [1, 1]), (None, None, {}), (None, None, (1, None)), nested(12), (None, None, (10 ** 39, 0))]
        same(self, held_error(2, row, good), None)
        for value in wrong + ODD:
            same(self, held_error(2, row, value), "held")
        for value in ODD:
            if value is not None:
                same(self, held_error(2, row, (None, value, None)), "held")

    def test_signs_of_held_words_are_below_their_number(self):
        for signs in range(2, 7):
            same(self, [held_error(signs, (1,), ((sign,),)) for sign in range(8)], [None] * signs + ["held"] * (8 - signs))

    def test_a_wrong_word_is_told_ahead_of_what_does_not_fit(self):
        same(self, held_error(2, (0, 0, 2), (None, None, (1,))), "held")
        same(self, held_error(2, (0, 0, 2), (None, None, (1, 1))), 1)
        same(self, held_error(2, (0, 0, 2), ((), (), (1, 1))), 1)

    def test_words_of_16_signs(self):
        last = (5,) * 16
        same(self, held_error(6, (16, 16), (None, last)), None)
        same(self, held_error(6, (16, 16), (last, None)), 1)
        same(self, count_held(6, (16, 16), (None, last)), 6 ** 16 - 1)
        same(self, count_held(6, (16, 16), (last, None)), 0)


class GreatHeldTest(TestCase):
    def cases(self):
        for signs, row in GREAT:
            many = count(signs, row)
            for number in sorted({0, many // 2, many - 1}):
                for held in some_held(row, code_at(signs, row, number)):
                    yield signs, row, held, code_at(signs, row, number)

    def test_first_and_last_keep_the_words_and_are_the_outer_ones(self):
        for signs, row, held, code in self.cases():
            same(self, held_error(signs, row, held), None)
            first, last = first_held(signs, row, held), last_held(signs, row, held)
            for told in (first, last):
                self.assertTrue(only_tuples(told))
                same(self, (code_error(signs, told), lengths(told), keeps(told, held)), (None, row, True))
            self.assertTrue(all(one <= word <= other for one, word, other in zip(first, code, last)))
            same(self, count_held(signs, row, held) == 1, first == last)

    def test_none_held(self):
        for signs, row in GREAT:
            held = (None,) * len(row)
            same(self, first_held(signs, row, held), first_code(signs, row))
            same(self, last_held(signs, row, held), last_code(signs, row))
            same(self, count_held(signs, row, held), count(signs, row))

    def test_all_held(self):
        for signs, row in GREAT:
            for code in (first_code(signs, row), last_code(signs, row)):
                same(self, (first_held(signs, row, code), last_held(signs, row, code)), (code, code))
                same(self, count_held(signs, row, code), 1)

    def test_the_codes_of_all_words_of_a_key_are_all_codes(self):
        for signs, row in [(2, (4, 3, 5, 4, 6, 5)), (3, (2, 3, 2, 3, 2)), (6, (2, 1, 3, 2)), (2, (5,) * 9)]:
            for key in range(len(row)):
                for other in (None, key - 1):
                    held = [None] * len(row)
                    if other is not None and other >= 0:
                        held[other] = first_code(signs, row)[other]
                    whole = count_held(signs, row, tuple(held))
                    low, high = [word_as_number(signs, word) for word in words_of(signs, row, key)]
                    many = 0
                    for number in range(low, high + 1):
                        held[key] = number_as_word(signs, number, row[key])
                        many += count_held(signs, row, tuple(held))
                    same(self, many, whole)

    def test_a_word_below_the_least_one_or_above_the_greatest_one_is_kept_by_no_code(self):
        for signs, row in GREAT:
            for key in range(len(row)):
                low, high = [word_as_number(signs, word) for word in words_of(signs, row, key)]
                for number in (low - 1, low, high, high + 1):
                    if 0 <= number < signs ** row[key]:
                        held = [None] * len(row)
                        held[key] = number_as_word(signs, number, row[key])
                        self.check_one(signs, row, tuple(held), low <= number <= high)

    def check_one(self, signs, row, held, kept):
        same(self, held_error(signs, row, held) is None, kept)
        same(self, count_held(signs, row, held) > 0, kept)
        if not kept:
            key = {"key": held_error(signs, row, held)}
            same(self, fields_of(self, NoFit, first_held, signs, row, held), key)
            same(self, fields_of(self, NoFit, last_held, signs, row, held), key)

    def test_a_row_that_does_not_fit(self):
        for signs, row, key in [(2, (1, 1, 1), 2), (2, (0, 0), 1), (2, (4,) * 15 + (3,), 15), (6, (1,) * 7, 6)]:
            held = (None,) * len(row)
            same(self, (held_error(signs, row, held), count_held(signs, row, held)), (key, 0))
            same(self, fields_of(self, NoFit, first_held, signs, row, held), {"key": key})
            same(self, fields_of(self, NoFit, last_held, signs, row, held), {"key": key})


class LeastHeldTest(TestCase):
    # Signs, keys, the most signs, the most signs of a pin, and which part of the pins is gone through.
    CASES = [(2, 1, 3, 4, 1), (2, 2, 3, 3, 1), (2, 3, 3, 3, 5), (2, 4, 3, 3, 97), (2, 4, 4, 4, 2999), (3, 2, 2, 2, 1),
             (3, 3, 2, 2, 7), (3, 3, 3, 2, 31), (6, 2, 1, 1, 1), (4, 3, 2, 1, 1)]

    def test_small_pins_by_going_through_all_codes(self):
        for signs, keys, most, longest, part in self.CASES:
            words = [None, *all_words(signs, longest)]
            codes = codes_within(signs, keys, most)
            for pins in list(product(words, repeat=keys))[::part]:
                rows = {lengths(code) for code in codes if keeps(code, pins)}
                for weights in [(1,) * keys, tuple(range(keys)), tuple(2 ** (2 * keys - key) for key in range(keys))]:
                    told = min([(total(weights, row), row) for row in rows], default=(None, None))
                    same(self, (least_held(signs, weights, pins, most), best_held(signs, weights, pins, most)), told)

    def test_one_or_two_pins_of_each_word(self):
        for signs, keys, most in [(2, 4, 4), (2, 5, 3), (3, 3, 3)]:
            codes = codes_within(signs, keys, most)
            words = all_words(signs, most)
            for key in range(keys):
                for word in words[::3]:
                    for other in [None, *words[key::7]]:
                        pins = [None] * keys
                        pins[key - 1], pins[key] = other, word
                        weights = tuple((3 * place + key) % 5 for place in range(keys))
                        rows = {lengths(code) for code in codes if keeps(code, pins)}
                        told = min([(total(weights, row), row) for row in rows], default=(None, None))
                        pins = tuple(pins)
                        same(self, (least_held(signs, weights, pins, most), best_held(signs, weights, pins, most)), told)

    def test_without_pins_it_is_the_least_total(self):
        for signs in range(2, 7):
            for weights in [(7,), (0,) * 16, (BIG,) * 16, tuple(2 ** key for key in range(16)), tuple(range(9))]:
                for most in (1, 2, 4, 7, 16):
                    pins = (None,) * len(weights)
                    same(self, least_held(signs, weights, pins, most), least_total(signs, weights, most))
                    same(self, best_held(signs, weights, pins, most), best_row(signs, weights, most))

    def test_all_pinned(self):
        for signs, row in GREAT:
            for code in (first_code(signs, row), last_code(signs, row)):
                weights = tuple(range(len(row)))
                same(self, least_held(signs, weights, code, 16), total(weights, row))
                same(self, best_held(signs, weights, code, 16), row)
                same(self, least_held(signs, weights, code, max(row)), total(weights, row))
                same(self, least_held(signs, weights, code, max(row) - 1), None)

    def test_pins_that_no_code_keeps(self):
        for pins in [((1,), None, None), (None, None, (0,)), ((0,), (0, 1), None), ((0, 1), (0,), None), ((1,), (0,), None),
                     ((0,), (0,), None), ((0,), None, (1, 0)), ((0, 1, 1), None, (1, 0, 0)), ((), None, None),
                     ((0,), (1,), None), (None, (0,), None), (None, (1, 1), None), ((0,) * 16, (0,) * 15 + (1,), (0,) * 15)]:
            for most in (1, 2, 5, 16):
                same(self, least_held(2, (1, 2, 3), pins, most), None)
                same(self, best_held(2, (1, 2, 3), pins, most), None)

    def test_a_pin_longer_than_most(self):
        for signs in (2, 6):
            same(self, least_held(signs, (4, 4), ((0,) * 3, None), 3), 16)
            same(self, least_held(signs, (4, 4), ((0,) * 3, None), 2), None)
            same(self, best_held(signs, (4, 4), (None, (1,) * 16), 15), None)
            same(self, best_held(signs, (4, 4), (None, (1,) * 16), 16), (1, 16))

    def test_the_word_without_signs(self):
        same(self, [least_held(2, (5,), ((),), 1), best_held(2, (5,), ((),), 1)], [0, (0,)])
        same(self, [least_held(2, (5, 1), ((), None), 9), best_held(2, (5, 1), (None, ()), 9)], [None, None])

    def test_pins_among_more_keys_by_going_through_all_rows(self):
        for signs, most, pins in [(2, 5, (None, None, (0, 1, 1), None, None, None)),
                                  (2, 5, (None, (0, 1), None, None, (1, 0, 1), None)),
                                  (2, 5, ((0, 0, 0, 1), None, None, None, None, (1, 1, 1))),
                                  (3, 3, (None, (1, 0, 2), None, None, None)),
                                  (6, 2, ((2, 3), None, None, (4,), None, None)),
                                  (2, 4, (None, (0, 1, 0, 1), (1, 0, 1, 0), None, None))]:
            sizes = [range(1, most + 1) if word is None else [len(word)] for word in pins]
            rows = [row for row in product(*sizes) if held_error(signs, row, pins) is None]
            for weights in [(1,) * 6, (0,) * 6, (3, 1, 4, 1, 5, 9), (1, 8, 0, 4, 0, 2)]:
                weights = weights[:len(pins)]
                told = min([(total(weights, row), row) for row in rows])
                same(self, (least_held(signs, weights, pins, most), best_held(signs, weights, pins, most)), told)

    def test_a_pin_between_many_keys(self):
        pins = (None,) * 8 + ((1, 0) * 8,) + (None,) * 7
        same(self, least_held(2, (0,) * 8 + (BIG,) + (0,) * 7, pins, 16), 16 * BIG)
        # One key beside the pin has the shortest of the words that are free there.
        same(self, best_held(2, (1, 1, 1), (None, (1, 0, 1), None), 16), (1, 3, 2))
        same(self, best_held(2, (1, 1, 1, 1), (None, None, (1, 0, 1), None), 16), (1, 3, 3, 2))
        same(self, best_held(2, (1,) * 7, (None,) * 5 + ((1, 0, 1), None), 16), (3, 3, 3, 3, 3, 3, 2))

    def test_fewer_pins_are_never_worse(self):
        for signs, row in GREAT:
            weights = tuple((7 * key) % 5 for key in range(len(row)))
            code = code_at(signs, row, count(signs, row) // 2)
            least = least_held(signs, weights, (None,) * len(row), 16)
            for pins in some_held(row, code):
                told = least_held(signs, weights, pins, 16)
                self.assertTrue(least <= told <= total(weights, row))
                best = best_held(signs, weights, pins, 16)
                same(self, (total(weights, best), row_error(signs, best)), (told, None))
                same(self, held_error(signs, best, pins), None)

    def test_no_room_between_pins(self):
        pins = (None, (0, 1), None, (1, 0), None)
        same(self, [least_held(2, (1,) * 5, pins, 16), best_held(2, (1,) * 5, pins, 16)], [None, None])
        same(self, best_held(3, (1,) * 5, pins, 16), (2, 2, 2, 2, 1))
        code = first_held(3, (2, 2, 2, 2, 1), pins)
        self.assertFalse(any(is_start(one, other) for one in code for other in code if one != other))
