"""[4] [5] [6] Words, codes, and reading keys by their joined words."""

from itertools import product
from unittest import TestCase

from ordercodes.codes import code_error, is_start, is_word, joined, lengths, parted, read
from ordercodes.errors import BadRow, NoFit
from tests.helper import ODD, C, all_words, begins, fields_of, is_code, number_as_word, same

ONE = ((),)
SIXTEEN_LONG = tuple(number_as_word(2, 4001 * key, 16) for key in range(16))
CODES = [
    (2, C),
    (2, ((0, 1), (1, 0))),
    (2, ((1, 0, 1),)),
    (3, ((0,), (1, 2), (2, 0, 1))),
    (6, ((0,), (3,), (5, 5))),
]


class WordsTest(TestCase):
    def test_words(self):
        for signs, word in [(2, ()), (2, (0,)), (2, (1, 0)), (3, (2, 2)), (6, (5, 0, 3)), (6, (5,) * 16), (2, (0,) * 16)]:
            same(self, is_word(signs, word), True)

    def test_signs_are_below_their_number(self):
        for signs in range(2, 7):
            same(self, [is_word(signs, (0, sign)) for sign in range(8)], [sign < signs for sign in range(8)])

    def test_a_word_has_at_most_16_signs(self):
        for signs in (2, 6):
            same(self, [is_word(signs, (1,) * size) for size in (15, 16, 17, 18, 9999)], [True, True, False, False, False])

    def test_other_values_are_no_words(self):
        for signs in range(2, 7):
            for value in ODD:
                same(self, is_word(signs, value), False)
            same(self, [is_word(signs, 0), is_word(signs, 1), is_word(signs, ((0,),))], [False] * 3)

    def test_true_is_not_the_sign_1_and_false_not_the_sign_0(self):
        same(self, [is_word(2, word) for word in [(1, True), (False, 0), (1, 0, False), (1, 0)]], [False] * 3 + [True])


class StartsTest(TestCase):
    def test_each_two_words(self):
        for signs, most in [(2, 3), (3, 2)]:
            for one, other in product(all_words(signs, most), repeat=2):
                same(self, is_start(one, other), begins(one, other))

    def test_each_word_begins_itself_and_the_empty_one_begins_all(self):
        for word in [(), (0,), (5, 4), (1,) * 16]:
            same(self, (is_start(word, word), is_start((), word)), (True, True))

    def test_words_of_16_signs(self):
        same(self, is_start((1,) * 15, (1,) * 16), True)
        same(self, is_start((1,) * 16, (1,) * 15), False)
        same(self, is_start((1,) * 15 + (0,), (1,) * 16), False)


class PartedTest(TestCase):
    def check(self, words, one, other):
        between = [word for word in words if one < word <= other]
        same(self, parted(one, other), min(between, key=lambda word: (len(word), word)))

    def test_each_two_words(self):
        for signs, most in [(2, 4), (3, 3), (6, 2)]:
            words = all_words(signs, most)
            for place, one in enumerate(words):
                for other in words[place + 1:]:
                    self.check(words, one, other)

    def test_behind_the_empty_word(self):
        same(self, [parted((), other) for other in [(0,), (5,), (3, 1)]], [(0,), (0,), (0,)])

    def test_a_word_that_begins_the_other(self):
        same(self, parted((1, 0), (1, 0, 5, 5)), (1, 0, 0))
        same(self, parted((1,) * 15, (1,) * 16), (1,) * 15 + (0,))

    def test_words_of_16_signs(self):
        same(self, parted((0,) * 16, (0,) * 15 + (5,)), (0,) * 15 + (1,))
        same(self, parted((0,) * 16, (5,) * 16), (1,))
        same(self, parted((4,) + (5,) * 15, (5,)), (5,))

    def test_one_may_be_the_longer_word(self):
        same(self, parted((1, 2, 3, 4, 5), (1, 4)), (1, 3))


class CodeErrorTest(TestCase):
    def test_codes(self):
        for signs, code in [*CODES, (2, ONE), (6, ONE), (2, SIXTEEN_LONG), (4, tuple(product(range(4), repeat=2)))]:
            same(self, code_error(signs, code), None)

    def test_no_tuple_of_1_to_16_items(self):
        words = [number_as_word(6, number, 2) for number in range(17)]
        for value in [(), tuple(words), tuple([None] * 17), list(C), [], [()], None, 0, True, "0", {}, {(0,): 0}, NoFit(0)]:
            same(self, code_error(6, value), (None, "code"))
        same(self, code_error(6, tuple(words[:16])), None)

    def test_no_word(self):
        for odd in [*ODD, 0, 7, (0,) * 17, (2,)]:
            same(self, code_error(2, (odd,)), (0, "word"))
            same(self, code_error(2, ((0,), odd)), (1, "word"))
            same(self, code_error(2, ((0,), (1, 0), odd, (1, 1))), (2, "word"))

    def test_order(self):
        for code in [((1,), (0,)), ((1,), (1,)), ((), ()), ((1, 1), (1,)), ((0,), ()), ((1, 0), (0, 1, 1))]:
            same(self, code_error(2, code), (1, "order"))
        same(self, code_error(2, ((0, 0), (0, 1), (0, 1))), (2, "order"))
        same(self, code_error(2, ((0, 0), (1, 1), (1, 0))), (2, "order"))

    def test_start(self):
        for code in [((), (0,)), ((0,), (0, 0)), ((0,), (0, 1)), ((1,) * 15, (1,) * 16), ((), (1,) * 16)]:
            same(self, code_error(2, code), (1, "start"))
        same(self, code_error(2, ((0,), (1,), (1, 0))), (2, "start"))

    def test_the_first_fault_is_told(self):
        same(self, code_error(2, ((1,), (0,), (0,), None)), (1, "order"))
        same(self, code_error(2, ((0,), (0, 1), (0,))), (1, "start"))
        same(self, code_error(2, ((0,), (0, 1), (2,))), (1, "start"))
        same(self, code_error(2, ((1,), (0, 2), (0, 1))), (1, "word"))
        same(self, code_error(2, ((1,), [0], (0,))), (1, "word"))
        same(self, code_error(2, ((True,), (0,))), (0, "word"))

    def test_all_tuples_of_few_words(self):
        for signs, most, keys in [(2, 2, 3), (3, 1, 3), (2, 3, 2)]:
            for value in product(all_words(signs, most), repeat=keys):
                same(self, code_error(signs, value) is None, is_code(value))
                if not is_code(value):
                    number, fault = code_error(signs, value)
                    self.assertTrue(is_code(value[:number]) and not is_code(value[:number + 1]))
                    same(self, fault, "start" if value[number - 1] < value[number] else "order")

    def test_odd_values(self):
        for value in ODD:
            told = code_error(6, value)
            many = isinstance(value, tuple) and 1 <= len(value) <= 16
            same(self, told, (0, "word") if many else (None, "code"))


class LengthsTest(TestCase):
    def test_lengths(self):
        same(self, [lengths(C), lengths(ONE), lengths(SIXTEEN_LONG)], [(1, 2, 3, 3), (0,), (16,) * 16])


class JoinedTest(TestCase):
    def test_joined(self):
        same(self, [joined(C, ()), joined(C, (3,)), joined(C, (0, 0)), joined(C, (2, 1, 0))],
             [(), (1, 1, 1), (0, 0), (1, 1, 0, 1, 0, 0)])

    def test_60_keys_of_16_signs(self):
        keys = tuple(key % 16 for key in range(60))
        signs = joined(SIXTEEN_LONG, keys)
        same(self, signs, tuple(sign for key in keys for sign in number_as_word(2, 4001 * key, 16)))
        same(self, len(signs), 960)

    def test_the_code_of_the_empty_word(self):
        same(self, joined(ONE, ()), ())

    def test_the_lesser_keys_have_the_lesser_signs(self):
        for _, code in CODES:
            rows = [keys for size in range(4) for keys in product(range(len(code)), repeat=size)]
            for one, other in product(rows, repeat=2):
                same(self, joined(code, one) < joined(code, other), one < other)


class ReadTest(TestCase):
    def test_all_short_tuples(self):
        for signs, code in CODES:
            most = 7 if signs == 2 else 4
            rows = [keys for size in range(most + 1) for keys in product(range(len(code)), repeat=size)]
            told = {joined(code, keys): keys for keys in rows}
            starts = {row[:size] for row in told for size in range(most + 1)}
            for value in all_words(signs, most):
                wrong = [place for place in range(len(value)) if value[:place + 1] not in starts]
                if value in told:
                    same(self, read(signs, code, value), told[value])
                else:
                    place = wrong[0] if wrong else len(value)
                    same(self, fields_of(self, BadRow, read, signs, code, value), {"place": place})

    def test_reading_tells_joined_keys_back(self):
        for signs, code in CODES:
            for size in range(4):
                for keys in product(range(len(code)), repeat=size):
                    same(self, read(signs, code, joined(code, keys)), keys)

    def test_60_keys_and_more(self):
        for many in (60, 61, 600):
            keys = tuple(key * 7 % 16 for key in range(many))
            same(self, read(2, SIXTEEN_LONG, joined(SIXTEEN_LONG, keys)), keys)
        same(self, read(2, C, (0,) * 9999), (0,) * 9999)

    def test_the_code_of_the_empty_word(self):
        for signs in (2, 6):
            same(self, read(signs, ONE, ()), ())
            for value in [(0,), (1, 1), (1,) * 16, (0,) * 9999]:
                same(self, fields_of(self, BadRow, read, signs, ONE, value), {"place": 0})
            for value in ODD:
                same(self, fields_of(self, BadRow, read, signs, ONE, value), {"place": None})

    def test_no_tuple_of_signs(self):
        for signs, code in CODES:
            for value in [*ODD, 0, 1, 111, (signs,), (0, signs), ((0,), (1, 0))]:
                same(self, fields_of(self, BadRow, read, signs, code, value), {"place": None})

    def test_what_is_no_sign_comes_ahead_of_what_cannot_be_read(self):
        code = ((0, 0), (1, 1))
        for late in (2, -1, True, False, None, "1", (1,), [1]):
            same(self, fields_of(self, BadRow, read, 2, code, (0, 1, 1, late)), {"place": None})
        same(self, fields_of(self, BadRow, read, 2, code, (0, 1, 1, 1)), {"place": 1})

    def test_only_a_beginning(self):
        for value in [(1,), (1, 1), (0, 1), (1, 1, 1, 1), (1, 0, 1, 1)]:
            same(self, fields_of(self, BadRow, read, 2, C, value), {"place": len(value)})
        same(self, read(2, C, ()), ())

    def test_the_first_sign_that_does_not_go_on(self):
        same(self, fields_of(self, BadRow, read, 2, ((0, 1), (1, 0)), (0, 1, 1, 1, 0)), {"place": 3})
        same(self, fields_of(self, BadRow, read, 6, ((0,), (3,), (5, 5)), (0, 3, 4, 4)), {"place": 2})
