"""[27] Words that tell keys, and the fewest words that tell just the keys of a range."""

from itertools import combinations
from unittest import TestCase

from ordercodes.codes import lengths
from ordercodes.ranges import cover, is_cover, told_by
from ordercodes.rows import code_at, count
from tests.helper import ODD, C, all_words, begins, codes_within, nested, only_tuples, same

ONE = ((),)
SMALL = [(2, 1, 3), (2, 2, 3), (2, 3, 3), (2, 4, 3), (3, 2, 2), (3, 3, 2), (6, 2, 1)]
GREAT = [(2, (16,) * 16), (6, (16,) * 16), (2, tuple(range(1, 16)) + (15,)), (3, (16, 9, 3, 16, 12, 5, 7, 16)),
         (4, (2,) * 16),
         (2, (4,) * 16), (6, (2, 2, 1, 3, 3, 16, 1, 2))]


def small_codes():
    """Signs, all small codes with these, and all words of a sign more than the codes may have."""
    for signs, keys, most in SMALL:
        words = all_words(signs, most + 1)
        for code in codes_within(signs, keys, most):
            yield signs, code, words


def great_codes():
    for signs, row in GREAT:
        many = count(signs, row)
        for number in sorted({0, many // 3, many // 2, many - 1}):
            yield signs, code_at(signs, row, number)


def ranges(code):
    """All pairs of a first key and a last one."""
    return [(first, last) for first in range(len(code)) for last in range(first, len(code))]


def told(code, words):
    """The keys whose words some of the words begin."""
    return {key for key, own in enumerate(code) if any(begins(word, own) for word in words)}


class ToldByTest(TestCase):
    def test_small_codes_with_all_words(self):
        for _, code, words in small_codes():
            for word in words:
                keys = told(code, [word])
                same(self, told_by(code, word), (min(keys), max(keys)) if keys else None)

    def test_the_keys_told_lie_side_by_side(self):
        for _, code in great_codes():
            for key, own in enumerate(code):
                for size in range(len(own) + 1):
                    first, last = told_by(code, own[:size])
                    self.assertTrue(first <= key <= last)
                    same(self, told(code, [own[:size]]), set(range(first, last + 1)))

    def test_the_word_without_signs_tells_all(self):
        for _, code in great_codes():
            same(self, told_by(code, ()), (0, len(code) - 1))
        same(self, told_by(ONE, ()), (0, 0))

    def test_words_that_tell_none(self):
        same(self, [told_by(C, word) for word in [(0, 0), (1, 0, 1), (1, 1, 0, 0), (1, 1, 1) * 5]], [None] * 4)
        same(self, [told_by(ONE, word) for word in [(0,), (1,)]], [None, None])
        same(self, [told_by(C, word) for word in [(0,), (1,), (1, 1), (1, 1, 1)]], [(0, 0), (1, 3), (2, 3), (3, 3)])


class CoverTest(TestCase):
    def test_small_codes_by_a_look_at_all_words(self):
        for signs, code, words in small_codes():
            for first, last in ranges(code):
                keys = set(range(first, last + 1))
                within = {word for word in words if told(code, [word]) and told(code, [word]) <= keys}
                wanted = [word for word in words if word in within
                          and not any(word[:size] in within for size in range(len(word)))]
                same(self, cover(signs, code, first, last), tuple(wanted))

    def test_great_codes(self):
        for signs, code in great_codes():
            for first, last in ranges(code):
                words = cover(signs, code, first, last)
                self.assertTrue(only_tuples(words))
                same(self, list(words), sorted(set(words)))
                same(self, told(code, words), set(range(first, last + 1)))
                for word in words:
                    # A sign less would tell keys outside.
                    self.assertTrue(word == () or told(code, [word[:-1]]) - set(range(first, last + 1)))
                same(self, is_cover(signs, code, first, last, words), True)

    def test_all_keys_are_told_by_the_word_without_signs(self):
        for signs, code in great_codes():
            same(self, cover(signs, code, 0, len(code) - 1), ((),))
        for signs in range(2, 7):
            same(self, cover(signs, ONE, 0, 0), ((),))

    def test_one_key(self):
        same(self, [cover(2, C, key, key) for key in range(4)], [((0,),), ((1, 0),), ((1, 1, 0),), ((1, 1, 1),)])
        same(self, cover(2, ((0, 0, 0), (1, 0, 0)), 1, 1), ((1,),))
        same(self, cover(6, ((2, 5), (4,) * 16), 1, 1), ((4,),))

    def test_many_words(self):
        code = code_at(2, (4,) * 16, 0)
        same(self, cover(2, code, 1, 14), ((0, 0, 0, 1), (0, 0, 1), (0, 1), (1, 0), (1, 1, 0), (1, 1, 1, 0)))
        same(self, cover(2, code, 4, 11), ((0, 1), (1, 0)))


class IsCoverTest(TestCase):
    def test_small_codes_by_going_through_all_tuples_of_words(self):
        for signs, keys, most in [(2, 1, 2), (2, 2, 2), (2, 3, 2), (2, 4, 2), (3, 3, 1), (3, 2, 2)]:
            words = all_words(signs, most + (signs == 2))
            for code in codes_within(signs, keys, most):
                for first, last in ranges(code):
                    self.check(signs, code, first, last, words)

    def check(self, signs, code, first, last, words):
        keys = set(range(first, last + 1))
        for many in range(1, len(code) + 1):
            found = [value for value in combinations(words, many) if told(code, value) == keys]
            same(self, [value for value in combinations(words, many) if is_cover(signs, code, first, last, value)],
                 found)
            if found:
                same(self, len(cover(signs, code, first, last)), many)
                for value in combinations(words, many + 1):
                    same(self, is_cover(signs, code, first, last, value), False)
                return
        self.fail("no words tell just these keys")

    def test_words_longer_than_those_of_cover(self):
        code = ((0, 0, 0), (1, 0, 0), (1, 1))
        same(self, cover(2, code, 1, 1), ((1, 0),))
        same(self, [is_cover(2, code, 1, 1, (word,)) for word in [(1,), (1, 0), (1, 0, 0), (1, 0, 1), (1, 0, 0, 0),
                                                                  ()]],
             [False, True, True, False, False, False])

    def test_more_words_than_need_be(self):
        same(self, is_cover(2, C, 2, 3, ((1, 1),)), True)
        same(self, is_cover(2, C, 2, 3, ((1, 1, 0), (1, 1, 1))), False)
        same(self, is_cover(2, C, 2, 3, ((0, 0), (1, 1))), False)
        same(self, is_cover(2, C, 1, 3, ((1,), (1, 0))), False)
        same(self, is_cover(2, C, 0, 3, ((0,), (1,))), False)
        same(self, is_cover(2, C, 0, 3, ((),)), True)

    def test_too_few_keys_or_others(self):
        same(self, is_cover(2, C, 1, 2, ((1, 0), (1, 1))), False)
        same(self, is_cover(2, C, 1, 2, ((1, 0), (1, 1, 1))), False)
        same(self, is_cover(2, C, 0, 1, ((0,), (1,))), False)
        same(self, is_cover(2, C, 0, 2, ((0,), (1, 0))), False)
        same(self, is_cover(2, C, 0, 2, ((0,), (1, 0), (1, 1, 0))), True)

    def test_values_that_are_no_ascending_words(self):
        wrong = [(), ((1, 1, 0), (1, 0)), ((1, 0), (1, 0)), [(1, 0), (1, 1, 0)], ([1, 0], (1, 1, 0)),
                 ((1, 0), [1, 1, 0]),
                 ((True, 0), (1, 1, 0)), ((1, False), (1, 1, 0)), ((1, 0), (1, True, 0)), ((1, 0), "110"), "10 110",
                 ((1, 0), None), ((1, 0), 110), ((1, 2), (1, 1, 0)), ((1, 0), (1, 1, 0), (1, 1, 0)),
                 ((1, 0), (1, 1, -1)),
                 ((1, 0), (1, 1, 0) + (0,) * 14), nested(12), {(1, 0): 0, (1, 1, 0): 1}, ((1, 0), ((1, 1, 0),)),
                 ((1, 0), {1: 1}), (((1, 0), (1, 1, 0)),)]
        same(self, is_cover(2, C, 1, 2, ((1, 0), (1, 1, 0))), True)
        for value in wrong + ODD:
            same(self, is_cover(2, C, 1, 2, value), False)
        for value in ODD:
            same(self, is_cover(2, C, 1, 2, ((1, 0), value)), False)
            same(self, is_cover(2, C, 1, 1, (value,)), False)

    def test_signs_that_there_are_not(self):
        code = ((0,), (2,))
        same(self, [is_cover(signs, code, 1, 1, ((2,),)) for signs in (3, 6)], [True, True])
        same(self, is_cover(3, code, 1, 1, ((3,),)), False)

    def test_great_codes_with_words_made_longer(self):
        for signs, code in great_codes():
            for first, last in ranges(code)[::7]:
                words = cover(signs, code, first, last)
                lone = [word for word in words if len(told(code, [word])) == 1]
                for word in lone:
                    own = code[min(told(code, [word]))]
                    value = tuple(own if other == word else other for other in words)
                    same(self, is_cover(signs, code, first, last, value), True)
                for word in words:
                    value = tuple(other for other in words if other != word)
                    same(self, is_cover(signs, code, first, last, value), False)


class KindsTest(TestCase):
    def test_covers_have_no_longer_words_than_the_code(self):
        for signs, code in great_codes():
            for first, last in ranges(code):
                self.assertLessEqual(max(lengths(cover(signs, code, first, last))), max(lengths(code)))
