"""[13] [14] [15] What is free between the words of a code, keys put into its gaps, and pages."""

from itertools import combinations
from random import Random
from unittest import TestCase

from ordercodes.codes import code_error, lengths, parted
from ordercodes.errors import TooMany
from ordercodes.gaps import changed, free, is_put, pages, put_in, room
from ordercodes.rows import code_at, count, first_code, last_code
from tests.helper import ODD, C, all_words, begins, codes_within, fields_of, is_code, nested, only_tuples, same

ONE = ((),)
SMALL = [(2, 1, 3), (2, 2, 3), (2, 3, 3), (2, 4, 3), (3, 1, 2), (3, 2, 2), (3, 3, 2), (4, 2, 2), (6, 1, 1), (6, 2, 1)]
GREAT = [(2, (16,) * 16), (6, (16,) * 16), (2, tuple(range(1, 16)) + (15,)), (3, (16, 9, 3, 16, 12, 5, 7, 16)),
         (4, (2,) * 15), (2, (4,) * 12), (5, (1, 16, 2, 16, 3))]


def small_codes():
    """Signs, all small codes with these, and the most signs of a word in them."""
    for signs, keys, most in SMALL:
        for code in codes_within(signs, keys, most):
            yield signs, code, most


def great_codes():
    """Signs and codes of many or long words: the first one, the last one and others with some rows."""
    for signs, row in GREAT:
        many = count(signs, row)
        for number in sorted({0, many - 1, many // 2, many // 3}):
            yield signs, code_at(signs, row, number)


def is_free(signs, code, word):
    """Tell whether the word is free, as the document says it."""
    if any(begins(word, one) or begins(one, word) for one in code):
        return False
    return all(any(begins(word[:size], one) for one in code) for size in range(len(word)))


def put_by_going_through_all(signs, code, gap, many, most):
    """How few words can change when keys are put in, and all codes in which so few do."""
    found = {}
    for told in codes_within(signs, len(code) + many, most):
        olds = told[:gap] + told[gap + many:]
        found.setdefault(sum(one != other for one, other in zip(olds, code)), []).append(told)
    return min(found.items(), default=(None, []))


class FreeTest(TestCase):
    def test_small_codes_by_going_through_all_words(self):
        for signs, code, most in small_codes():
            words = [word for word in all_words(signs, most) if is_free(signs, code, word)]
            told = [()] * (len(code) + 1)
            for word in words:
                told[sum(one < word for one in code)] += (word,)
            same(self, free(signs, code), tuple(told))

    def test_the_code_of_the_one_word_without_signs(self):
        for signs in range(2, 7):
            same(self, free(signs, ONE), ((), ()))

    def test_gaps_without_free_words(self):
        same(self, free(2, C), ((), (), (), (), ()))
        same(self, free(2, ((0,), (1, 1))), ((), ((1, 0),), ()))
        same(self, free(3, ((0,), (1,), (2, 2))), ((), (), ((2, 0), (2, 1)), ()))

    def test_first_and_last_gap(self):
        same(self, free(2, ((1, 0),)), (((0,),), ((1, 1),)))
        same(self, free(6, ((2, 3),)), (((0,), (1,), (2, 0), (2, 1), (2, 2)), ((2, 4), (2, 5), (3,), (4,), (5,))))

    def test_words_of_16_signs(self):
        word = (1, 0) * 8
        ahead = tuple(word[:place] + (0,) for place in range(0, 16, 2))
        behind = tuple(word[:place] + (1,) for place in range(15, 0, -2))
        same(self, free(2, (word,)), (ahead, behind))

    def test_great_codes(self):
        for signs, code in great_codes():
            told = free(signs, code)
            self.assertTrue(only_tuples(told))
            same(self, len(told), len(code) + 1)
            words = [word for words in told for word in words]
            self.assertTrue(all(is_free(signs, code, word) for word in words))
            # Together with the words of the code they fill all: each other word begins some, or some begin it.
            whole = sum(signs ** (16 - len(word)) for word in [*words, *code])
            same(self, whole, signs ** 16)
            in_turn = [word for gap, one in enumerate(told) for word in [*one, *code[gap:gap + 1]]]
            same(self, sorted([*words, *code]), in_turn)


class RoomTest(TestCase):
    def most_words(self, signs, code, gap, most):
        """The most words that go into the gap, by going through all lots of them."""
        words = [word for word in all_words(signs, most) if sum(one < word for one in code) == gap
                 and not any(begins(one, word) or begins(word, one) for one in code)]
        best = 0
        for many in range(len(words) + 1):
            if any(is_code(told) for told in combinations(words, many)):
                best = many
            else:
                return best
        return best

    def test_small_codes_by_going_through_all_lots_of_words(self):
        for signs, keys, longest, mosts in [(2, 1, 3, (1, 2, 3)), (2, 2, 3, (1, 2, 3)), (2, 3, 3, (2, 3)), (3, 2, 2, (1, 2))]:
            for code in codes_within(signs, keys, longest):
                for most in mosts:
                    for gap in range(keys + 1):
                        same(self, room(signs, code, gap, most), self.most_words(signs, code, gap, most))

    def test_the_code_of_the_one_word_without_signs(self):
        for signs in range(2, 7):
            same(self, [room(signs, ONE, gap, most) for gap in (0, 1) for most in (1, 16)], [0] * 4)

    def test_most_below_the_longest_word(self):
        code = ((0, 1, 1, 1), (1, 1, 0, 0))
        same(self, [room(2, code, 0, most) for most in range(1, 6)], [0, 1, 3, 7, 14])
        same(self, [room(2, code, 1, most) for most in range(1, 6)], [0, 1, 2, 4, 8])
        same(self, [room(2, code, 2, most) for most in range(1, 6)], [0, 0, 1, 3, 6])

    def test_more_words_than_keys(self):
        same(self, room(6, ((0,), (1,)), 2, 16), 4 * 6 ** 15)
        same(self, room(2, ((0, 1),), 1, 16), 2 ** 15)

    def test_great_codes(self):
        for signs, code in great_codes():
            for most in (1, 5, 15, 16):
                told = [room(signs, code, gap, most) for gap in range(len(code) + 1)]
                size = [signs ** (most - len(word)) if len(word) <= most else None for word in code]
                if None not in size:
                    same(self, sum(told) + sum(size), signs ** most)
                for gap, words in enumerate(free(signs, code)):
                    same(self, told[gap] == 0, all(len(word) > most for word in words))


class PutInTest(TestCase):
    def test_small_codes_by_going_through_all_codes(self):
        # Signs, keys, the most signs of a word, how many keys are put in, and which part of the codes is gone through.
        for signs, keys, most, manys, part in [(2, 1, 2, (1, 2, 3), 1), (2, 2, 2, (1, 2, 3), 1), (2, 2, 3, (1, 2), 2),
                                               (2, 3, 3, (1, 2), 11), (3, 2, 2, (1,), 4), (2, 4, 3, (1, 3), 23)]:
            for code in codes_within(signs, keys, most)[::part]:
                for many in manys:
                    for gap in range(keys + 1):
                        self.check(signs, code, gap, many, most)

    def check(self, signs, code, gap, many, most):
        few, codes = put_by_going_through_all(signs, code, gap, many, most)
        told = (signs, code, gap, many, most)
        if few is None:
            same(self, fields_of(self, TooMany, put_in, *told), {})
            same(self, fields_of(self, TooMany, changed, *told), {})
        else:
            same(self, changed(*told), few)
            self.assertIn(put_in(*told), codes)
        accepted = [value for value in codes_within(signs, len(code) + many, most) if is_put(*told, value)]
        same(self, accepted, codes)

    def test_great_codes(self):
        for signs, code in great_codes():
            for gap in {0, 1, len(code) // 2, len(code)}:
                for many in {1, 3, 16 - len(code)} - {0}:
                    for most in {max(lengths(code)), 16}:
                        self.check_great(signs, code, gap, many, most)

    def check_great(self, signs, code, gap, many, most):
        told = (signs, code, gap, many, most)
        if len(code) + many > min(16, signs ** most):
            same(self, fields_of(self, TooMany, put_in, *told), {})
            same(self, fields_of(self, TooMany, changed, *told), {})
            same(self, is_put(*told, code), False)
            return
        value = put_in(*told)
        self.assertTrue(only_tuples(value))
        same(self, (code_error(signs, value), len(value)), (None, len(code) + many))
        self.assertLessEqual(max(lengths(value)), most)
        others = sum(one != other for one, other in zip(value[:gap] + value[gap + many:], code))
        same(self, changed(*told), others)
        same(self, is_put(*told, value), True)
        same(self, changed(*told) == 0, room(signs, code, gap, most) >= many)

    def test_the_most_words_are_kept_by_going_through_all_lots_of_them(self):
        seed = Random(14)
        for signs, row, most in [(2, (4,) * 9, 4), (2, (3, 5, 5, 4, 4, 5, 3, 2), 5), (3, (2,) * 7, 2),
                                (2, (1, 3, 4, 5, 6, 6), 6)]:
            many_codes = count(signs, row)
            for number in {0, many_codes - 1, seed.randrange(many_codes), seed.randrange(many_codes)}:
                code = code_at(signs, row, number)
                for gap in range(len(row) + 1):
                    for many in (1, 2, 5):
                        if len(row) + many <= signs ** most:
                            fewest = self.fewest_changed(signs, code, gap, many, most)
                            same(self, changed(signs, code, gap, many, most), fewest)

    def fewest_changed(self, signs, code, gap, many, most):
        """The least number of words to change, by going through all lots of words kept."""
        for few in range(len(code) + 1):
            for kept in combinations(range(len(code)), len(code) - few):
                if self.goes(signs, code, gap, many, most, kept):
                    return few
        return None

    def goes(self, signs, code, gap, many, most, kept):
        """Tell whether there is a code that keeps these words, by a count of the words of just so many signs."""
        rest = [code[key] for key in kept]
        numbers = [-1] + [key if key < gap else key + many for key in kept] + [len(code) + many]
        between = [two - one - 1 for one, two in zip(numbers, numbers[1:])]
        if not rest:
            return between[0] <= signs ** most
        return all(need <= room(signs, tuple(rest), place, most) for place, need in enumerate(between))

    def test_codes_of_the_document(self):
        for value in [((0, 0, 0), (0, 0, 1), (1, 0), (1, 1, 0), (1, 1, 1)), ((0, 0), (0, 1), (1, 0), (1, 1, 0), (1, 1, 1)),
                      ((0,), (1, 0, 0), (1, 0, 1), (1, 1, 0), (1, 1, 1))]:
            same(self, is_put(2, C, 1, 1, 3, value), True)
        same(self, is_put(2, C, 1, 1, 3, ((0, 0), (0, 1, 0), (0, 1, 1), (1, 1, 0), (1, 1, 1))), False)
        same(self, is_put(2, C, 1, 1, 2, ((0, 0), (0, 1), (1, 0), (1, 1, 0), (1, 1, 1))), False)

    def test_the_code_of_the_one_word_without_signs(self):
        for signs in range(2, 7):
            for gap in (0, 1):
                for many in (1, 15):
                    told = (signs, ONE, gap, many, 16)
                    same(self, changed(*told), 1)
                    same(self, is_put(*told, put_in(*told)), True)
            same(self, fields_of(self, TooMany, put_in, signs, ONE, 0, 16, 16), {})
            same(self, changed(signs, ONE, 0, signs - 1, 1), 1)
            same(self, put_in(signs, ONE, 0, signs - 1, 1), tuple((sign,) for sign in range(signs)))
            same(self, fields_of(self, TooMany, changed, signs, ONE, 1, signs, 1), {})

    def test_17_keys_are_too_many(self):
        for signs, code, gap, many in [(2, first_code(2, (16,) * 16), 3, 1), (6, C, 0, 13), (6, ONE, 1, 16), (3, C, 4, 16)]:
            for call in (put_in, changed):
                same(self, fields_of(self, TooMany, call, signs, code, gap, many, 16), {})
            for value in [*ODD, code, C, last_code(signs, (16,) * 16)]:
                same(self, is_put(signs, code, gap, many, 16, value), False)
        same(self, len(put_in(6, C, 0, 12, 16)), 16)
        same(self, len(put_in(6, ONE, 0, 15, 16)), 16)

    def test_more_keys_than_words(self):
        for call in (put_in, changed):
            same(self, fields_of(self, TooMany, call, 2, C, 0, 5, 3), {})
            same(self, fields_of(self, TooMany, call, 2, ((0,), (1,)), 1, 1, 1), {})
            same(self, fields_of(self, TooMany, call, 3, ((0,), (2,)), 0, 2, 1), {})
        same(self, is_put(2, C, 0, 5, 3, C), False)
        same(self, put_in(2, C, 0, 4, 3), tuple(all_words(2, 3)[place] for place in (3, 4, 6, 7, 10, 11, 13, 14)))
        same(self, put_in(3, ((0,), (2,)), 1, 1, 1), ((0,), (1,), (2,)))

    def test_values_that_are_no_such_code(self):
        good = ((0, 0, 0), (0, 0, 1), (1, 0), (1, 1, 0), (1, 1, 1))
        wrong = [C, good[:4], good + ((1, 1, 1, 1),), list(good), ([0, 0, 0],) + good[1:], good[::-1], None, (), (good,),
                 ((0, 0, False),) + good[1:], ((0, 0, 0), (0, 0, True)) + good[2:], ("000",) + good[1:], good[:4] + (None,),
                 ((0, 0, 0), (0, 0, 0)) + good[2:], ((0, 0), (0, 0, 1)) + good[2:], good[:4] + ((1, 1, 2),),
                 ((0, 0, 0, 0), (0, 0, 1)) + good[2:], good[:4] + (7,), good[:4] + ((-1,),), nested(12)]
        same(self, is_put(2, C, 1, 1, 3, good), True)
        for value in wrong + ODD:
            same(self, is_put(2, C, 1, 1, 3, value), False)
        for value in ODD:
            same(self, is_put(2, C, 1, 1, 3, good[:4] + (value,)), False)

    def test_a_code_in_which_more_words_change_is_none(self):
        told = (2, ((0, 0), (1, 1)), 1, 1, 2)
        same(self, [value for value in codes_within(2, 3, 2) if is_put(*told, value)],
             [((0, 0), (0, 1), (1, 1)), ((0, 0), (1, 0), (1, 1))])
        same(self, is_put(*told, ((0, 0), (0, 1), (1,))), False)


class PagesTest(TestCase):
    def by_going_through_all(self, code, size):
        found = []
        for many in range(len(code)):
            for starts in combinations(range(1, len(code)), many):
                ends = [0, *starts, len(code)]
                if all(end - start <= size for start, end in zip(ends, ends[1:])):
                    found.append((sum(len(parted(code[key - 1], code[key])) for key in starts), starts))
        return min(found)[1]

    def test_small_codes_by_going_through_all_cuts(self):
        for signs, code, _ in small_codes():
            for size in range(1, len(code) + 2):
                same(self, pages(code, size), self.by_going_through_all(code, size))

    def test_codes_of_more_keys_by_going_through_all_cuts(self):
        for signs, row in [(2, (4,) * 10), (2, tuple(range(1, 10)) + (9,)), (2, (9,) + tuple(range(9, 0, -1))), (3, (3,) * 9),
                           (6, (1, 2, 2, 2, 1, 3, 3, 2, 1)), (2, (16,) * 10)]:
            many = count(signs, row)
            for number in sorted({0, many // 3, many // 2, many - 1}):
                code = code_at(signs, row, number)
                for size in range(1, 12):
                    same(self, pages(code, size), self.by_going_through_all(code, size))

    def test_pages_of_one_key_and_of_16(self):
        for signs, code in great_codes():
            same(self, pages(code, 1), tuple(range(1, len(code))))
            same(self, pages(code, 16), ())
            same(self, pages(code, len(code)), ())
            same(self, len(pages(code, len(code) - 1)), 1)

    def test_one_key(self):
        same(self, [pages(ONE, 1), pages(ONE, 16), pages(((1, 0),), 1)], [(), (), ()])

    def test_of_several_the_first(self):
        same(self, pages(first_code(2, (2,) * 4), 3), (2,))
        same(self, pages(first_code(6, (1,) * 6), 3), (3,))
        same(self, pages(first_code(6, (1,) * 6), 4), (2,))
        same(self, pages(first_code(6, (1,) * 6), 2), (2, 4))

    def test_great_codes(self):
        for signs, code in great_codes():
            for size in (1, 2, 3, 7, 15, 16):
                told = pages(code, size)
                self.assertTrue(only_tuples(told))
                ends = [0, *told, len(code)]
                self.assertTrue(all(1 <= end - start <= size for start, end in zip(ends, ends[1:])))
