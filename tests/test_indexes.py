"""[16] [17] [18] An index: its deeds and their errors, undo, keys moved, trials, and what it tells of itself."""

from itertools import product
from random import Random
from unittest import TestCase

from ordercodes.bounds import MAX_WEIGHT
from ordercodes.codes import code_error, lengths
from ordercodes.errors import (
    BadIndex, BadWeights, Crowded, Full, LastKey, NoGap, NoKey, NothingToUndo, TooMany,
)
from ordercodes.gaps import put_in
from ordercodes.indexes import Index
from ordercodes.rows import code_at, count, first_code
from ordercodes.totals import best_row
from tests.helper import ODD, C, fields_of, same

ONE = ((),)
BIG = MAX_WEIGHT
# Values that are no gap, no key and no number at all.
NO_NUMBERS = [value for value in ODD if not isinstance(value, int) or isinstance(value, bool)] + [slice(0, 2), 10 ** 39,
                                                                                                  -1]


def state(index):
    return index.signs, index.code, index.most, index.version, index.moved, len(index), str(index)


def refused(case, index, error, fields, call, *told):
    """Fail unless the call raises just this error and leaves the index as it was."""
    before = state(index)
    same(case, fields_of(case, error, call, *told), fields)
    same(case, state(index), before)


def full_index():
    """An index with 20 deeds in effect."""
    index = Index(2, C, 4)
    for _ in range(10):
        index.take(0)
        index.put(0, (0,))
    return index


class Slow:
    """An index over again, that keeps its keys as objects and copies all for each deed."""

    def __init__(self, signs, code, most):
        self.signs, self.most = signs, most
        self.keys = [(object(), word) for word in code]
        self.past = []
        self.moved = ()

    def become(self, keys):
        before = {id(key): word for key, word in self.keys}
        self.moved = tuple(number for number, (key, word) in enumerate(keys) if before.get(id(key), word) != word)
        self.keys = keys

    def code(self):
        return tuple(word for _, word in self.keys)

    def do(self, keys):
        self.past.append(list(self.keys))
        self.become(keys)

    def with_code(self, code, gap=None):
        """The keys with these words, a new one being in the gap."""
        keys = [key for key, _ in self.keys]
        if gap is not None:
            keys.insert(gap, object())
        return list(zip(keys, code))

    def put(self, gap, word):
        self.do(self.with_code(self.code()[:gap] + (word,) + self.code()[gap:], gap))

    def squeeze(self, gap):
        self.do(self.with_code(put_in(self.signs, self.code(), gap, 1, self.most), gap))

    def take(self, key):
        self.do(self.keys[:key] + self.keys[key + 1:])

    def recode(self, weights):
        self.do(self.with_code(first_code(self.signs, best_row(self.signs, weights, self.most))))

    def undo(self):
        self.become(self.past.pop())


class MakingTest(TestCase):
    def test_properties_at_first(self):
        for signs, code, most in [(2, C, 3), (2, C, 16), (6, ONE, 1), (3, ((2,),), 1),
                                  (2, code_at(2, (4,) * 16, 0), 4)]:
            index = Index(signs, code, most)
            same(self, (index.signs, index.code, index.most, index.version, index.moved), (signs, code, most, 0, ()))

    def test_no_signs(self):
        for signs in [*ODD, 0, 1, 7, -2, "2", (2,), 2.5]:
            if signs not in range(2, 7) or isinstance(signs, bool):
                same(self, fields_of(self, BadIndex, Index, signs, C, 3), {"number": None, "word": "signs"})

    def test_no_code(self):
        cases = [(2, value) for value in ODD] + [(2, ((0,), (0, 1))), (2, ((0,), (2,))), (3, ((1,), (0,))), (2, ()),
                                                 (2, list(C)),
                                                (2, (*C[:3], [1, 1, 1])), (2, tuple((0,) * 17 for _ in range(2))),
                                                 (2, C + ((True,),)),
                                                (2, Index(2, C, 3)), (2, (Index(2, C, 3),)),
                                                 (6, code_at(6, (2,) * 16, 0) + ((5, 5),))]
        for signs, value in cases:
            number, word = code_error(signs, value)
            same(self, fields_of(self, BadIndex, Index, signs, value, 16), {"number": number, "word": word})

    def test_no_most(self):
        for most in [*ODD, 0, 17, -1, 10 ** 20]:
            same(self, fields_of(self, BadIndex, Index, 2, C, most), {"number": None, "word": "most"})
        for most in (1, 2):
            same(self, fields_of(self, BadIndex, Index, 2, C, most), {"number": None, "word": "most"})
        same(self, fields_of(self, BadIndex, Index, 2, ((0,) * 16,), 15), {"number": None, "word": "most"})
        same(self, fields_of(self, BadIndex, Index, 2, ONE, 0), {"number": None, "word": "most"})

    def test_what_is_told_first(self):
        same(self, fields_of(self, BadIndex, Index, 7, (), 0), {"number": None, "word": "signs"})
        same(self, fields_of(self, BadIndex, Index, True, ((1,), (0,)), 3), {"number": None, "word": "signs"})
        same(self, fields_of(self, BadIndex, Index, 2, (), 0), {"number": None, "word": "code"})
        same(self, fields_of(self, BadIndex, Index, 2, ((1,), (0,)), 0), {"number": 1, "word": "order"})
        same(self, fields_of(self, BadIndex, Index, 2, ((1,), (1, 0)), None), {"number": 1, "word": "start"})
        same(self, fields_of(self, BadIndex, Index, 2, ((0,), (2,)), 3), {"number": 1, "word": "word"})

    def test_arguments_by_name(self):
        same(self, Index(most=3, code=C, signs=2) == Index(2, C, 3), True)


class PropertiesTest(TestCase):
    def test_properties_can_only_be_read(self):
        index = Index(2, C, 3)
        for name in ("signs", "code", "most", "version", "moved"):
            with self.assertRaises(AttributeError):
                setattr(index, name, 3)
        same(self, state(index), state(Index(2, C, 3)))

    def test_words_of_keys(self):
        index = Index(2, C, 3)
        same(self, [index[key] for key in range(4)], list(C))
        index.take(1)
        same(self, [index[key] for key in range(3)], [(0,), (1, 1, 0), (1, 1, 1)])
        for key in [4, 5, -1, -4, 10 ** 30, *NO_NUMBERS]:
            told = fields_of(self, NoKey, index.__getitem__, key)
            same(self, list(told), ["key"])
            self.assertIs(told["key"], key)
        same(self, fields_of(self, NoKey, lambda: index[3]), {"key": 3})

    def test_an_index_is_not_iterated_over(self):
        with self.assertRaises(TypeError):
            list(Index(2, C, 3))

    def test_how_many_keys(self):
        for size in range(1, 17):
            same(self, len(Index(2, code_at(2, (5,) * size, 0), 5)), size)

    def test_text(self):
        index = Index(2, ((0,), (1, 0)), 2)
        same(self, str(index), "2 keys, version 0")
        index.put(2, (1, 1))
        same(self, str(index), "3 keys, version 1")
        index.undo()
        index.take(0)
        same(self, str(index), "1 keys, version 1")
        same(self, f"{index}", "1 keys, version 1")

    def test_equal_ones(self):
        index = Index(2, C, 3)
        others = [Index(3, C, 3), Index(2, C[:3], 3), Index(2, C, 4), Index(2, ((0,), (1,)), 3)]
        for other in others:
            same(self, (index == other, index != other, other == index), (False, True, False))
        other = Index(2, C, 3)
        same(self, (index == other, index != other, index == index), (True, False, True))
        other.take(1)
        same(self, index == other, False)
        other.put(1, (1, 0))
        same(self, (other.version, index == other), (2, True))

    def test_no_other_value_is_equal(self):
        index = Index(2, C, 3)
        for value in [*ODD, C, (2, C, 3), "4 keys, version 0", 4, [index], (index,)]:
            same(self, (index == value, index != value, value == index), (False, True, False))


class PutTest(TestCase):
    def test_the_document(self):
        index = Index(2, ((0,), (1, 1)), 3)
        same(self, index.put(1, (1, 0)), 1)
        same(self, (index.code, index.moved, index.version), (((0,), (1, 0), (1, 1)), (), 1))

    def test_no_gap(self):
        index = Index(2, C, 3)
        for gap in [5, 6, -1, 10 ** 30, *NO_NUMBERS]:
            told = fields_of(self, NoGap, index.put, gap, None)
            self.assertIs(told["gap"], gap)
            refused(self, index, NoGap, {"gap": gap}, index.put, gap, (1, 0))

    def test_no_word(self):
        index = Index(2, ((0,), (1, 1)), 3)
        for word in [value for value in ODD if value != ()] + [(2,), (1, 2), (1, 0, 0, 0), [1, 0], (1, False), "10", 10,
                                                               (-1,)]:
            refused(self, index, BadIndex, {"number": None, "word": "word"}, index.put, 1, word)

    def test_16_keys(self):
        index = Index(2, code_at(2, (5,) * 15, 0), 5)
        same(self, index.put(15, (1, 1, 1)), 1)
        refused(self, index, TooMany, {}, index.put, 3, (1, 1, 0, 1, 1))
        refused(self, index, TooMany, {}, index.put, 16, (0,))

    def test_crowded(self):
        index = Index(2, C, 3)
        for gap in range(5):
            for word in [(), (0,), (1,), (1, 1), (0, 1), (1, 0), (1, 0, 1), (1, 1, 1), (0, 0, 0)]:
                refused(self, index, Crowded, {"gap": gap}, index.put, gap, word)

    def test_all_words_in_all_gaps(self):
        for code in [((0,), (1, 1)), ((0, 1), (1, 0)), ((1,),), ONE, ((0, 0, 0), (1, 1, 1)), ((0, 1, 1),)]:
            for gap in range(len(code) + 1):
                for size in range(4):
                    for word in product(range(2), repeat=size):
                        told = code[:gap] + (word,) + code[gap:]
                        index = Index(2, code, 3)
                        if code_error(2, told) is None:
                            same(self, (index.put(gap, word), index.code), (1, told))
                        else:
                            refused(self, index, Crowded, {"gap": gap}, index.put, gap, word)

    def test_what_is_told_first(self):
        index = Index(2, code_at(2, (4,) * 16, 0), 4)
        same(self, fields_of(self, NoGap, index.put, 17, "x"), {"gap": 17})
        same(self, fields_of(self, NoGap, index.put, None, None), {"gap": None})
        same(self, fields_of(self, BadIndex, index.put, 16, (2,)), {"number": None, "word": "word"})
        same(self, fields_of(self, BadIndex, index.put, 16, (0,) * 5), {"number": None, "word": "word"})
        same(self, fields_of(self, TooMany, index.put, 16, (0,) * 4), {})
        full = full_index()
        for gap, word in [(17, "x"), (1, "x"), (1, (0,)), (True, None)]:
            refused(self, full, Full, {}, full.put, gap, word)


class SqueezeTest(TestCase):
    def test_the_very_code_that_put_in_tells(self):
        for signs, code, most in [(2, C, 3), (2, C, 16), (3, C, 3), (6, ONE, 1), (2, ONE, 16), (2, ((0,), (1, 1)), 2),
                                  (2, code_at(2, (4,) * 15, 9), 4), (2, code_at(2, (9, 3, 5, 4), 9), 9)]:
            for gap in range(len(code) + 1):
                index = Index(signs, code, most)
                same(self, index.squeeze(gap), 1)
                same(self, index.code, put_in(signs, code, gap, 1, most))
                moved = [key + (key >= gap) for key, word in enumerate(code) if index.code[key + (key >= gap)] != word]
                same(self, index.moved, tuple(moved))

    def test_no_gap(self):
        index = Index(2, C, 3)
        for gap in [5, 6, -1, 10 ** 30, *NO_NUMBERS]:
            told = fields_of(self, NoGap, index.squeeze, gap)
            self.assertIs(told["gap"], gap)
            refused(self, index, NoGap, {"gap": gap}, index.squeeze, gap)

    def test_too_many(self):
        for signs, code, most in [(2, code_at(2, (5,) * 16, 0), 16), (2, ((0,), (1,)), 1), (3, ((0,), (1,), (2,)), 1),
                                  (2, code_at(2, (2,) * 4, 0), 2), (2, code_at(2, (3,) * 8, 0), 3)]:
            index = Index(signs, code, most)
            for gap in (0, 1, len(code)):
                refused(self, index, TooMany, {}, index.squeeze, gap)
            refused(self, index, NoGap, {"gap": len(code) + 1}, index.squeeze, len(code) + 1)

    def test_full_first(self):
        full = full_index()
        for gap in (0, 17, None):
            refused(self, full, Full, {}, full.squeeze, gap)


class TakeTest(TestCase):
    def test_each_key(self):
        for key in range(4):
            index = Index(2, C, 3)
            same(self, (index.take(key), index.code, index.moved), (1, C[:key] + C[key + 1:], ()))

    def test_no_key(self):
        index = Index(2, C, 3)
        for key in [4, 5, -1, 10 ** 30, *NO_NUMBERS]:
            told = fields_of(self, NoKey, index.take, key)
            self.assertIs(told["key"], key)
            refused(self, index, NoKey, {"key": key}, index.take, key)

    def test_the_last_key(self):
        for code in [ONE, ((1, 0),)]:
            index = Index(2, code, 2)
            refused(self, index, LastKey, {}, index.take, 0)
            refused(self, index, NoKey, {"key": 1}, index.take, 1)

    def test_full_first(self):
        full = full_index()
        for key in (0, 17, None):
            refused(self, full, Full, {}, full.take, key)


class RecodeTest(TestCase):
    def test_the_first_code_of_the_best_row(self):
        seed = Random(17)
        for signs, code, most in [(2, C, 3), (2, C, 16), (3, C, 3), (6, ONE, 1), (2, code_at(2, (4,) * 16, 0), 4),
                                  (2, code_at(2, (16,) * 16, 99), 16), (6, code_at(6, (16,) * 11, 99), 16)]:
            size = len(code)
            for weights in [(0,) * size, (1,) * size, (BIG,) * size, tuple(2 ** key for key in range(size)),
                            tuple(seed.randrange(BIG) for _ in range(size))]:
                index = Index(signs, code, most)
                same(self, index.recode(weights), 1)
                same(self, index.code, first_code(signs, best_row(signs, weights, most)))
                same(self, index.moved, tuple(key for key in range(size) if index.code[key] != code[key]))
                self.assertLessEqual(max(lengths(index.code)), most)

    def test_a_recode_that_changes_nothing_is_a_deed_too(self):
        index = Index(2, ((0,), (1,)), 1)
        same(self, (index.recode((3, 4)), index.code, index.moved, index.version), (1, ((0,), (1,)), (), 1))
        same(self, (index.undo(), index.moved), (0, ()))

    def test_no_weights(self):
        index = Index(2, C, 3)
        wrong = [(1, 1, 1), (1,) * 5, (), [1, 1, 1, 1], (1, 1, 1, -1), (1, 1, 1, BIG + 1), (1, 1, 1, True),
                 (1, 1, 1, None),
                 (False, 0, 0, 0), (1, 1, 1, "1"), "1111", 4, ((1, 1, 1, 1),), {0: 1}, None, (1, 1, 1, (1,))]
        for value in wrong + ODD:
            told = fields_of(self, BadWeights, index.recode, value)
            self.assertIs(told["value"], value)
            refused(self, index, BadWeights, {"value": value}, index.recode, value)
        same(self, index.recode((0, BIG, 0, BIG)), 1)

    def test_full_first(self):
        full = full_index()
        for weights in ((1,) * 4, (1,) * 5, None):
            refused(self, full, Full, {}, full.recode, weights)


class UndoTest(TestCase):
    def test_nothing_to_undo(self):
        index = Index(2, C, 3)
        refused(self, index, NothingToUndo, {}, index.undo)
        index.take(0)
        index.undo()
        refused(self, index, NothingToUndo, {}, index.undo)
        same(self, index.code, C)

    def test_twenty_deeds_and_their_undoing(self):
        index = Index(2, ((0, 0, 0, 0),), 8)
        codes = [index.code]
        for number in range(20):
            if number < 4 or number % 3 == 0:
                same(self, index.squeeze(1), number + 1)
            elif number % 3 == 1:
                same(self, index.take(0), number + 1)
            else:
                same(self, index.recode(tuple(range(len(index)))), number + 1)
            codes.append(index.code)
        same(self, index.version, 20)
        for call, told in [(index.squeeze, (0,)), (index.take, (0,)), (index.put, (0, (0,))), (index.recode, ((1,),))]:
            refused(self, index, Full, {}, call, *told)
        for number in range(19, -1, -1):
            same(self, (index.undo(), index.code, index.version), (number, codes[number], number))
        refused(self, index, NothingToUndo, {}, index.undo)

    def test_deeds_go_on_behind_an_undo(self):
        index = full_index()
        same(self, index.undo(), 19)
        same(self, index.take(0), 20)
        refused(self, index, Full, {}, index.take, 0)

    def test_many_deeds_as_with_keys_that_are_objects(self):
        for signs, code, most, part in [(2, C, 3, 1), (2, C, 6, 2), (3, C, 4, 3), (2, code_at(2, (4,) * 9, 0), 4, 4),
                                        (6, ONE, 2, 5),
                                        (2, code_at(2, (6,) * 12, count(2, (6,) * 12) // 2), 7, 6)]:
            self.check_run(Index(signs, code, most), Slow(signs, code, most), Random(part))

    def check_run(self, index, slow, seed):
        for _ in range(400):
            name, told = self.some_deed(index, seed)
            before = state(index)
            try:
                version = getattr(index, name)(*told)
            except (TooMany, Crowded, LastKey, Full, NothingToUndo):
                same(self, state(index), before)
                continue
            getattr(slow, name)(*told)
            same(self, (index.code, index.moved, index.version, version),
                 (slow.code(), slow.moved, len(slow.past), len(slow.past)))

    def some_deed(self, index, seed):
        gap = seed.randrange(len(index) + 1)
        word = tuple(seed.randrange(index.signs) for _ in range(seed.randrange(index.most + 1)))
        weights = tuple(seed.randrange(9) for _ in range(len(index)))
        return seed.choice([("put", (gap, word)), ("put", (gap, word)), ("squeeze", (gap,)),
                            ("take", (seed.randrange(len(index)),)),
                            ("recode", (weights,)), ("undo", ()), ("undo", ())])


class MovedTest(TestCase):
    def test_the_document(self):
        index = Index(2, C, 3)
        same(self, (index.take(1), index.put(1, (1, 0)), index.moved), (1, 2, ()))
        same(self, (index.recode((1, 1, 1, 1)), index.code, index.moved),
             (3, ((0, 0), (0, 1), (1, 0), (1, 1)), (0, 1, 2, 3)))
        same(self, (index.undo(), index.moved, str(index)), (2, (0, 1, 2, 3), "4 keys, version 2"))

    def test_keys_are_told_by_their_numbers_now(self):
        index = Index(2, ((0, 0), (0, 1), (1, 0), (1, 1)), 3)
        index.squeeze(0)
        same(self, (index.code[2:], index.moved), (((0, 1), (1, 0), (1, 1)), (1,)))
        index.undo()
        same(self, index.moved, (0,))
        index.squeeze(4)
        same(self, (index.code[:3], index.moved), (((0, 0), (0, 1), (1, 0)), (3,)))
        index.undo()
        same(self, index.moved, (3,))

    def test_a_key_that_comes_back_was_not_there(self):
        index = Index(2, C, 3)
        index.take(0)
        index.undo()
        same(self, (index.code, index.moved), (C, ()))

    def test_a_key_with_the_word_of_one_that_went_is_another_one(self):
        index = Index(2, C, 3)
        index.take(1)
        index.put(1, (1, 0))
        same(self, index.moved, ())
        index.undo()
        same(self, index.moved, ())
        index.put(1, (1, 0, 1))
        index.undo()
        index.undo()
        same(self, (index.code, index.moved), (C, ()))

    def test_a_refused_call_leaves_it(self):
        index = Index(2, C, 3)
        index.recode((1, 1, 1, 1))
        for call, told in [(index.put, (0, (0,))), (index.take, (9,)), (index.recode, (None,)), (index.squeeze, (9,))]:
            with self.assertRaises((Crowded, NoKey, BadWeights, NoGap)):
                call(*told)
            same(self, index.moved, (0, 1, 2, 3))


class Stop(Exception):
    """An error of none of the package's kinds."""


class TriedTest(TestCase):
    def test_what_the_function_returns_and_is_called_with(self):
        index = Index(2, C, 3)
        for value in [*ODD, [1, [2]], {"a": [1]}]:
            self.assertIs(index.tried(lambda told, value=value: value), value)
        self.assertIs(index.tried(lambda told: told), index)

    def test_the_index_is_put_back(self):
        index = Index(2, C, 3)
        index.recode((1, 1, 1, 1))
        index.take(3)
        before = state(index)

        def deeds(told):
            return [told.take(0), told.undo(), told.undo(), told.undo(), told.squeeze(4), told.code, told.moved]

        same(self, index.tried(deeds), [3, 2, 1, 0, 1, put_in(2, C, 4, 1, 3), (1, 2, 3)])
        same(self, state(index), before)
        same(self, (index.undo(), index.undo(), index.code), (1, 0, C))

    def test_the_index_is_put_back_when_the_function_raises(self):
        for error in (Stop, KeyboardInterrupt, ValueError):
            index = Index(2, C, 3)
            index.recode((3, 1, 1, 1))
            before = state(index)

            def deeds(told, error=error):
                told.undo()
                told.take(0)
                raise error("told")

            with self.assertRaises(error) as caught:
                index.tried(deeds)
            same(self, str(caught.exception), "told")
            same(self, state(index), before)
            same(self, (index.undo(), index.code), (0, C))

    def test_errors_of_the_package_go_on(self):
        index = Index(2, C, 3)
        index.take(0)
        for call, error in [(lambda told: told.take(9), NoKey), (lambda told: [told.undo() for _ in range(9)],
                                                                 NothingToUndo),
                            (lambda told: [told.take(0) for _ in range(9)], LastKey)]:
            before = state(index)
            with self.assertRaises(error):
                index.tried(call)
            same(self, state(index), before)

    def test_moved_is_put_back_too(self):
        index = Index(2, C, 3)
        index.recode((1, 1, 1, 1))
        index.tried(lambda told: told.take(0))
        same(self, index.moved, (0, 1, 2, 3))
        index.undo()
        index.tried(lambda told: (told.recode((1, 1, 1, 1)), told.undo(), told.take(1)))
        same(self, index.moved, (0, 1, 2, 3))

    def test_twenty_deeds_more_are_in_effect_for_the_trial_alone(self):
        index = full_index()
        same(self, index.tried(lambda told: ([told.undo() for _ in range(20)], told.take(0), told.code))[1:],
             (1, C[1:]))
        same(self, index.version, 20)
        refused(self, index, Full, {}, index.take, 0)

    def test_trials_within_trials(self):
        index = Index(2, C, 8)
        seen = []

        def deeper(told):
            told.squeeze(len(told)) if len(told) < 16 else told.recode(tuple(range(len(told))))
            before = state(told)
            if len(seen) < 19:
                seen.append(before)
                told.tried(deeper)
                same(self, state(told), seen.pop())
            same(self, state(told), before)
            return state(told)

        first = state(index)
        last = index.tried(deeper)
        same(self, (last[3], state(index)), (1, first))

    def test_trials_within_trials_that_end_by_an_error(self):
        index = Index(2, C, 3)
        index.recode((1, 2, 1, 1))
        first = state(index)
        told_states = []

        def deeper(told, depth=1):
            told.undo() if told.version else told.take(0)
            before = state(told)
            if depth == 20:
                raise Stop("deep")
            try:
                told.tried(lambda other: deeper(other, depth + 1))
            finally:
                same(self, state(told), before)
                told_states.append(depth)

        with self.assertRaises(Stop):
            index.tried(deeper)
        same(self, (state(index), told_states), (first, list(range(19, 0, -1))))

    def test_a_trial_caught_within_a_trial(self):
        index = Index(2, C, 3)

        def bad(told):
            told.take(0)
            raise Stop("inner")

        def outer(told):
            told.take(1)
            before = state(told)
            with self.assertRaises(Stop):
                told.tried(bad)
            same(self, state(told), before)
            return told.take(1)

        same(self, index.tried(outer), 2)
        same(self, state(index), state(Index(2, C, 3)))

    def test_the_index_alone_is_put_back(self):
        index, other, heard = Index(2, C, 3), Index(2, C, 3), []
        index.tried(lambda told: (heard.append(1), other.take(0)))
        same(self, (heard, other.version, index.version), ([1], 1, 0))


class ArgumentsTest(TestCase):
    def test_arguments_by_name(self):
        index = Index(2, ((0,), (1, 1)), 3)
        same(self, [index.put(word=(1, 0), gap=1), index.squeeze(gap=0), index.take(key=0),
                    index.recode(weights=(1, 1, 1)),
                    index.tried(function=lambda told: told.version)], [1, 2, 3, 4, 4])

    def test_two_indexes_do_not_share_anything(self):
        one, other = Index(2, C, 3), Index(2, C, 3)
        one.take(0)
        same(self, (other.code, other.version), (C, 0))
        other.recode((1, 1, 1, 1))
        same(self, (one.version, one.moved), (1, ()))
