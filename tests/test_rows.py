"""[7] [8] Rows of lengths, their first and last codes, and all codes counted and numbered."""

from math import comb
from random import Random
from unittest import TestCase

from ordercodes.codes import code_error, lengths
from ordercodes.errors import NoCode, NoFit
from ordercodes.held import first_held, last_held
from ordercodes.rows import code_at, count, first_code, last_code, number_of, row_error, words_of
from tests.helper import (
    ODD, C, all_codes, all_rows, fields_of, number_as_word, same, ways_by_place, word_as_number,
)

# Signs, the most keys and the greatest length of rows all of whose codes can be gone through.
SMALL = [(2, 3, 4), (2, 5, 2), (2, 4, 3), (3, 3, 2), (4, 2, 2), (6, 2, 2)]

# Rows that just fit, and rows that just do not, each with the first key that does not fit.
JUST = [(2, (1,) * 2), (2, (4,) * 16), (3, (1,) * 3), (4, (2,) * 16), (6, (1,) * 6), (2, tuple(range(1, 16)) + (15,)),
        (2, (15,) + tuple(range(15, 0, -1))), (3, (1, 2, 2, 2, 1)), (2, (0,)), (6, (0,)), (6, (1,) * 5 + (2,) * 6)]
TOO_MUCH = [(2, (1,) * 3, 2), (2, (4,) * 15 + (3,), 15), (3, (1,) * 4, 3), (4, (2,) * 15 + (1,), 15), (6, (1,) * 7, 6),
            (2, tuple(range(1, 16)) + (14,), 15), (2, (16,) + tuple(range(14, 0, -1)) + (1,), 15), (3, (1, 2, 2, 1, 1, 1), 4),
            (2, (0, 0), 1), (6, (0, 16), 1), (2, (1, 0), 1), (6, (16, 0), 1), (2, (2, 1, 2, 0, 16), 2),
            (6, (1,) * 5 + (2,) * 6 + (16,), 11)]
LARGE = [
    (2, (16,) * 16),
    (6, (16,) * 16),
    (6, (16, 15) * 8),
    (5, tuple(range(1, 17))),
    (3, tuple(range(16, 0, -1))),
    (4, (3, 16, 9, 2, 16, 1, 12, 5, 7, 16, 3, 2, 11, 16, 4, 6)),
    (2, (6, 16, 9, 5, 16, 4, 12, 5, 7, 16, 3, 6, 11, 16, 4, 6)),
    (6, (16,) * 8 + (15,) + (16,) * 7),
    (5, (16, 15, 14, 13) * 4),
    (6, (12, 13, 14, 15) + (16,) * 8 + (15, 14, 13, 12)),
    (3, (16,) * 4 + (12,) * 4 + (8,) * 4 + (4,) * 4),
    (4, (13,) * 16),
    (6, (2, 16)),
    (2, (7, 7, 7, 6, 6, 6, 6, 6, 5, 5, 4, 4, 4, 4, 4, 4)),
]


def next_code(signs, code):
    """The least greater code with the same lengths, by raising the last word that can be raised; None if none can."""
    row = lengths(code)
    for key in range(len(row) - 1, -1, -1):
        number = word_as_number(signs, code[key]) + 1
        words = code[:key] + (number_as_word(signs, number, row[key]),)
        if number < signs ** row[key]:
            rest = put_behind(signs, words, row[key + 1:])
            if rest is not None:
                return rest
    return None


def put_behind(signs, words, row):
    """The words with the least words of these lengths behind them, None if they do not go there."""
    for length in row:
        number = word_as_number(signs, words[-1]) + 1
        end = signs ** len(words[-1])
        if length > len(words[-1]):
            number, end = number * signs ** (length - len(words[-1])), signs ** length
        else:
            step = signs ** (len(words[-1]) - length)
            number, end = -(-number // step), signs ** length
        if number >= end:
            return None
        words = words + (number_as_word(signs, number, length),)
    return words


def some_code(signs, row, seed):
    """A code with these lengths, each word being any one that goes behind the words ahead of it."""
    words = ()
    for key, length in enumerate(row):
        held = words + (None,) * (len(row) - key)
        low = word_as_number(signs, first_held(signs, row, held)[key])
        high = word_as_number(signs, last_held(signs, row, held)[key])
        # Small steps are taken more often, so that there is something left to choose for the keys behind.
        step = min(high - low, seed.randrange(high - low + 1) // (len(row) - key))
        words = words + (number_as_word(signs, low + step, length),)
    return words


class SmallRowsTest(TestCase):
    def rows_with_codes(self):
        for signs, keys, most in SMALL:
            for row in all_rows(keys, most):
                yield signs, row, all_codes(signs, row)

    def test_all_that_is_told_of_a_row(self):
        for signs, row, codes in self.rows_with_codes():
            same(self, count(signs, row), len(codes))
            if codes:
                self.check_fitting(signs, row, codes)
            else:
                self.check_unfit(signs, row)

    def check_fitting(self, signs, row, codes):
        same(self, row_error(signs, row), None)
        same(self, (first_code(signs, row), last_code(signs, row)), (codes[0], codes[-1]))
        for key in range(len(row)):
            words = [code[key] for code in codes]
            same(self, words_of(signs, row, key), (min(words), max(words)))
        for number in range(0, len(codes), max(1, len(codes) // 20)):
            same(self, code_at(signs, row, number), codes[number])
            same(self, number_of(signs, codes[number]), number)
        same(self, code_at(signs, row, len(codes) - 1), codes[-1])
        self.check_no_code(signs, row, (len(codes), len(codes) + 1, -1, -len(codes)))

    def check_unfit(self, signs, row):
        key = row_error(signs, row)
        self.assertEqual(all_codes(signs, row[:key + 1]), [])
        self.assertNotEqual(all_codes(signs, row[:key]), [])
        same(self, fields_of(self, NoFit, first_code, signs, row), {"key": key})
        same(self, fields_of(self, NoFit, last_code, signs, row), {"key": key})
        for other in range(len(row)):
            same(self, fields_of(self, NoFit, words_of, signs, row, other), {"key": key})
        self.check_no_code(signs, row, (0, 1, -1))

    def check_no_code(self, signs, row, numbers):
        for number in numbers:
            same(self, fields_of(self, NoCode, code_at, signs, row, number), {"value": number})

    def test_each_word_between_is_the_key_s_in_some_code(self):
        for signs, row, codes in self.rows_with_codes():
            for key, length in enumerate(row if codes else ()):
                low, high = [word_as_number(signs, word) for word in words_of(signs, row, key)]
                between = [number_as_word(signs, number, length) for number in range(low, high + 1)]
                same(self, sorted({code[key] for code in codes}), between)

    def test_numbers_tell_all_codes_in_ascending_order(self):
        for signs, row in [(2, (3, 2, 3)), (3, (2, 1, 2)), (2, (4, 4, 4, 4)), (6, (2, 2)), (2, (3, 3, 1, 3))]:
            codes = all_codes(signs, row)
            same(self, [code_at(signs, row, number) for number in range(count(signs, row))], codes)
            same(self, [number_of(signs, code) for code in codes], list(range(len(codes))))

    def test_rows_of_many_keys_counted_by_places(self):
        for signs, row in [(2, (7,) * 16), (2, (6, 8, 5, 8, 7) * 3), (3, (4, 3, 5) * 5), (6, (3, 2, 4, 1) * 4),
                           (2, (4, 3, 9, 2, 9, 9, 5)), (2, (1, 1)), (2, (4,) * 15 + (3,)), (4, (0, 3, 2)),
                           (5, (3, 5, 5, 2, 4, 4, 1, 5)), (2, (12,) * 5 + (3,) + (12, 11) * 4), (2, tuple(range(1, 11)) + (10,)),
                           (3, (8, 7, 6, 5, 4, 3, 2, 1)), (6, (5,) * 7 + (1,) + (5,) * 8), (2, (4, 8, 12, 8, 12, 4, 8, 12, 12))]:
            same(self, count(signs, row), ways_by_place(signs, row))


class RowErrorTest(TestCase):
    def test_rows_that_just_fit_and_just_do_not(self):
        for signs, row in JUST:
            same(self, row_error(signs, row), None)
            same(self, first_code(signs, row), last_code(signs, row))
            same(self, count(signs, row), 1)
        for signs, row, key in TOO_MUCH:
            same(self, row_error(signs, row), key)
            same(self, fields_of(self, NoFit, first_code, signs, row), {"key": key})
            same(self, fields_of(self, NoFit, last_code, signs, row), {"key": key})
            same(self, fields_of(self, NoFit, words_of, signs, row, 0), {"key": key})
            same(self, count(signs, row), 0)

    def test_a_row_of_16_lengths_of_16(self):
        for signs in range(2, 7):
            same(self, row_error(signs, (16,) * 16), None)

    def test_no_rows(self):
        for signs in (2, 6):
            for value in [*ODD, (), (1,) * 17, (17,), (1, 17), (0, 17), (3, -1), 3, C, (1, True), (False,), (1, (2,))]:
                same(self, row_error(signs, value), "row")

    def test_a_wrong_item_is_told_ahead_of_what_does_not_fit(self):
        for value in [(0, 0, 17), (1, 1, 1, None), (0, 0, True), (0,) * 17]:
            same(self, row_error(2, value), "row")

    def test_the_order_of_the_lengths_matters(self):
        same(self, [row_error(2, row) for row in [(1, 2, 2), (2, 2, 1), (2, 1, 2), (2, 1, 16)]], [None, None, 2, 2])

    def test_the_word_of_no_signs_alone(self):
        same(self, [first_code(3, (0,)), last_code(3, (0,)), words_of(3, (0,), 0)], [((),), ((),), ((), ())])
        same(self, [count(3, (0,)), code_at(3, (0,), 0), number_of(3, ((),))], [1, ((),), 0])


class LargeRowsTest(TestCase):
    def test_all_words_of_16_signs(self):
        for signs in range(2, 7):
            row = (16,) * 16
            last = signs ** 16 - 1
            same(self, count(signs, row), comb(signs ** 16, 16))
            same(self, first_code(signs, row), tuple(number_as_word(signs, key, 16) for key in range(16)))
            same(self, last_code(signs, row), tuple(number_as_word(signs, last - 15 + key, 16) for key in range(16)))
            same(self, words_of(signs, row, 5), (number_as_word(signs, 5, 16), number_as_word(signs, last - 10, 16)))

    def test_numbers_of_codes_of_words_of_16_signs(self):
        for signs in range(2, 7):
            words = [signs ** 16 // 29 * (key + 1) + key * key for key in range(16)]
            code = tuple(number_as_word(signs, number, 16) for number in words)
            # Sets of numbers in ascending order, numbered as in combinatorics.
            behind = sum(comb(signs ** 16 - 1 - number, 16 - key) for key, number in enumerate(words))
            number = comb(signs ** 16, 16) - 1 - behind
            same(self, number_of(signs, code), number)
            same(self, code_at(signs, (16,) * 16, number), code)

    def test_a_short_word_among_long_ones(self):
        for signs in range(2, 7):
            part = signs ** 15
            ways = sum(comb(sign * part, 8) * comb((signs - 1 - sign) * part, 7) for sign in range(signs))
            same(self, count(signs, (16,) * 8 + (1,) + (16,) * 7), ways)

    def test_first_and_last_number(self):
        for signs, row in LARGE:
            many = count(signs, row)
            same(self, code_at(signs, row, 0), first_code(signs, row))
            same(self, code_at(signs, row, many - 1), last_code(signs, row))
            same(self, (number_of(signs, first_code(signs, row)), number_of(signs, last_code(signs, row))), (0, many - 1))
            same(self, fields_of(self, NoCode, code_at, signs, row, many), {"value": many})
            same(self, fields_of(self, NoCode, code_at, signs, row, -1), {"value": -1})

    def test_each_number_is_told_back_and_the_next_code_has_the_next_one(self):
        for signs, row in LARGE:
            many = count(signs, row)
            self.assertGreater(many, 1)
            for part in range(7):
                number = (many - 2) * part // 6
                code = code_at(signs, row, number)
                same(self, code_error(signs, code), None)
                same(self, (lengths(code), number_of(signs, code)), (row, number))
                same(self, code_at(signs, row, number + 1), next_code(signs, code))

    def test_a_lesser_number_tells_a_lesser_code(self):
        seed = Random(8)
        for signs, row in LARGE:
            many = count(signs, row)
            numbers = sorted({0, many - 1, *[seed.randrange(many) for _ in range(9)]})
            codes = [code_at(signs, row, number) for number in numbers]
            same(self, codes, sorted(codes))
            same(self, len(set(codes)), len(numbers))
            same(self, [number_of(signs, code) for code in codes], numbers)

    def test_codes_made_word_by_word_are_told_back(self):
        seed = Random(16)
        for signs, row in LARGE:
            codes = sorted({some_code(signs, row, seed) for _ in range(6)} | {first_code(signs, row), last_code(signs, row)})
            numbers = [number_of(signs, code) for code in codes]
            same(self, numbers, sorted(set(numbers)))
            same(self, (numbers[0], numbers[-1]), (0, count(signs, row) - 1))
            same(self, [code_at(signs, row, number) for number in numbers], codes)

    def test_nothing_comes_behind_the_last_code(self):
        for signs, row in LARGE:
            self.assertIsNone(next_code(signs, last_code(signs, row)))


class NoCodeTest(TestCase):
    def test_values_that_are_no_numbers(self):
        for signs, row in [(2, (3, 2, 3)), (2, (1, 1, 1)), (6, (16,) * 16), (3, (0,))]:
            for value in [*ODD, (), (0,), (1,), "1"]:
                with self.assertRaises(NoCode) as caught:
                    code_at(signs, row, value)
                self.assertIs(caught.exception.value, value)

    def test_true_and_false_are_no_numbers(self):
        for value in (True, False):
            self.assertIs(fields_of(self, NoCode, code_at, 2, (3, 2, 3), value)["value"], value)

    def test_numbers_of_many_digits(self):
        for value in [10 ** 40, 10 ** 9999, -10 ** 9999]:
            with self.assertRaises(NoCode) as caught:
                code_at(2, (3, 2, 3), value)
            self.assertIs(caught.exception.value, value)

    def test_a_row_that_does_not_fit_has_no_numbers(self):
        for signs, row, _ in TOO_MUCH:
            for value in (0, 1, -1, None):
                same(self, fields_of(self, NoCode, code_at, signs, row, value), {"value": value})
