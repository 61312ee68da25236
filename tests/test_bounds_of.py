"""[11] [12] Rows under all weights within a box, and rows mended by the fewest signs."""

from itertools import product
from random import Random
from unittest import TestCase

from ordercodes.bounds import MAX_LONG, MAX_WEIGHT
from ordercodes.bounds_of import always_best, mended, regret, shown, worst
from ordercodes.errors import NoFit
from ordercodes.rows import row_error
from ordercodes.totals import best_row, is_best, least_total, total
from tests.helper import ODD, all_rows, fields_of, least_by_cuts, nested, only_tuples, rows_within, same

BIG = MAX_WEIGHT
# Rows that do not fit, each with the first key that does not fit.
UNFIT = [(2, (1, 1, 1), 2), (2, (2, 1, 2), 2), (3, (0, 0), 1), (2, (4,) * 15 + (3,), 15), (6, (1,) * 7, 6)]
BOX = ((1, 3), (1, 1), (0, 4))
ROW = (1, 2, 2)


def some_boxes(keys, many):
    """Boxes for so many keys: single points, all weights, and others from a fixed seed."""
    seed = Random(keys)
    told = [((0, 0),) * keys, ((BIG, BIG),) * keys, ((0, BIG),) * keys, ((0, 1),) * keys, ((1, 3),) * keys,
            tuple((key, 2 * key) for key in range(keys)), tuple((0, key) for key in range(keys))]
    for most in [6] * many + [BIG] * many:
        told.append(tuple(tuple(sorted((seed.randrange(most + 1), seed.randrange(most + 1)))) for _ in range(keys)))
    return told


def all_other_rows(signs, keys):
    """All rows that fit and may be best for some weights: words have no more signs than there are cuts."""
    return rows_within(signs, keys, max(keys - 1, 1))


def above(weights, row, other):
    return sum(weight * (one - two) for weight, one, two in zip(weights, row, other))


class RegretTest(TestCase):
    def cases(self):
        for signs, keys, longest in [(2, 1, 4), (2, 2, 3), (2, 3, 3), (2, 4, 3), (3, 3, 2), (3, 4, 2), (6, 3, 2)]:
            for row in rows_within(signs, keys, longest):
                for box in some_boxes(keys, 2):
                    yield signs, row, box

    def test_small_rows_by_going_through_all_corners_and_rows(self):
        for signs, row, box in self.cases():
            others = all_other_rows(signs, len(row))
            greatest = max(above(weights, row, other) for weights in product(*box) for other in others)
            same(self, regret(signs, row, box), greatest)
            same(self, always_best(signs, row, box), greatest == 0)

    def test_all_weights_within_small_boxes(self):
        for signs, row in [(2, (1, 2, 2)), (2, (2, 2, 1)), (2, (3, 3, 3)), (3, (1, 1, 1)), (3, (2, 1, 1))]:
            for box in [BOX, ((0, 2), (1, 3), (2, 2)), ((0, 3), (0, 3), (0, 3)), ((4, 5), (1, 1), (0, 4))]:
                told = []
                for weights in product(*[range(low, high + 1) for low, high in box]):
                    told.append(total(weights, row) - least_total(signs, weights, MAX_LONG))
                same(self, regret(signs, row, box), max(told))
                same(self, always_best(signs, row, box), max(told) == 0)

    def test_a_box_of_one_point(self):
        for signs in (2, 3, 6):
            for weights in [(0,) * 16, (BIG,) * 16, tuple(range(16)), tuple(2 ** key for key in range(16))]:
                box = tuple((weight, weight) for weight in weights)
                for row in [(16,) * 16, (4,) * 16, best_row(signs, weights, 16)]:
                    told = total(weights, row) - least_total(signs, weights, MAX_LONG)
                    same(self, regret(signs, row, box), told)
                    same(self, always_best(signs, row, box), is_best(signs, weights, row, 16))

    def test_great_rows_by_going_through_all_cuts(self):
        for signs, row in [(2, (16,) * 16), (2, (4,) * 16), (2, tuple(range(1, 12))), (3, (3,) * 12),
                          (6, (2, 1, 3, 2, 2, 3, 1, 2, 2))]:
            for box in some_boxes(len(row), 1)[2:]:
                most = len(row) - 1
                costs = [[-max(low * (own - length), high * (own - length)) for length in range(most + 1)]
                         for own, (low, high) in zip(row, box)]
                same(self, regret(signs, row, box), -least_by_cuts(signs, costs, most)[0])

    def test_one_key(self):
        for signs in range(2, 7):
            for length in (0, 1, 16):
                same(self, regret(signs, (length,), ((3, 7),)), 7 * length)
                same(self, always_best(signs, (length,), ((3, 7),)), length == 0)
                same(self, always_best(signs, (length,), ((0, 0),)), True)
                same(self, shown(signs, (length,), ((3, 7),), worst(signs, (length,), ((3, 7),))), 7 * length)

    def test_a_row_that_does_not_fit(self):
        for signs, row, key in UNFIT:
            box = ((0, BIG),) * len(row)
            same(self, fields_of(self, NoFit, regret, signs, row, box), {"key": key})
            same(self, fields_of(self, NoFit, worst, signs, row, box), {"key": key})
            same(self, always_best(signs, row, box), False)
            same(self, always_best(signs, row, ((0, 0),) * len(row)), False)


class WorstTest(TestCase):
    def check(self, signs, row, box):
        told = worst(signs, row, box)
        self.assertTrue(only_tuples(told))
        weights, other = told
        same(self, (len(told), len(weights), len(other)), (2, len(row), len(row)))
        self.assertTrue(all(low <= weight <= high for weight, (low, high) in zip(weights, box)))
        same(self, row_error(signs, other), None)
        same(self, above(weights, row, other), regret(signs, row, box))
        same(self, shown(signs, row, box, told), regret(signs, row, box))

    def test_small_rows(self):
        for signs, keys in [(2, 1), (2, 3), (2, 4), (3, 4), (6, 3)]:
            for row in rows_within(signs, keys, 2):
                for box in some_boxes(keys, 3):
                    self.check(signs, row, box)

    def test_great_rows(self):
        for signs in range(2, 7):
            for row in [(16,) * 16, (4,) * 16, (16, 9, 3, 16, 12, 5, 7, 16, 3, 16, 11, 16, 4, 16, 6, 5)]:
                for box in some_boxes(16, 1):
                    self.check(signs, row, box)

    def test_nothing_shows_more_than_regret(self):
        for signs, row in [(2, (3, 2, 3, 2)), (3, (2, 1, 2, 2)), (2, (2, 2, 2, 2))]:
            for box in some_boxes(4, 1):
                most = regret(signs, row, box)
                for other in rows_within(signs, 4, 3):
                    for weights in product(*box):
                        same(self, shown(signs, row, box, (weights, other)), above(weights, row, other))
                        self.assertLessEqual(above(weights, row, other), most)


class ShownTest(TestCase):
    def test_the_difference_of_the_totals_perhaps_below_0(self):
        same(self, shown(2, ROW, BOX, ((1, 1, 4), (2, 2, 1))), 3)
        same(self, shown(2, ROW, BOX, ((3, 1, 0), (2, 2, 1))), -3)
        same(self, shown(2, ROW, BOX, ((2, 1, 2), ROW)), 0)
        same(self, shown(2, ROW, BOX, ((1, 1, 4), (16, 16, 16))), -85)

    def test_the_row_itself_need_not_fit(self):
        for signs, row, _ in UNFIT:
            weights = (BIG,) * len(row)
            box = ((0, BIG),) * len(row)
            other = (4,) * len(row)
            same(self, shown(signs, row, box, (weights, other)), BIG * (sum(row) - 4 * len(row)))

    def test_weights_outside_of_the_box(self):
        for weights in [(0, 1, 0), (4, 1, 0), (1, 0, 0), (1, 2, 0), (1, 1, -1), (1, 1, 5), (1, 1, 10 ** 39)]:
            same(self, shown(2, ROW, BOX, (weights, ROW)), None)
        for weights in [(1, 1, 0), (3, 1, 4)]:
            same(self, shown(2, ROW, BOX, (weights, ROW)), 0)

    def test_other_rows_that_are_none_or_do_not_fit(self):
        for other in [(1, 1, 1), (2, 1, 2), (0, 0, 0), (1, 2, 17), (1, 2, -1), (1, 2), (1, 2, 3, 3), (0,), ()]:
            same(self, shown(2, ROW, BOX, ((1, 1, 1), other)), None)
        same(self, shown(3, ROW, BOX, ((1, 1, 1), (1, 1, 1))), 2)

    def test_values_that_are_no_pairs(self):
        pair = ((1, 1, 1), (1, 2, 2))
        same(self, shown(2, ROW, BOX, pair), 0)
        wrong = [(), pair[:1], pair + (0,), pair + ((),), list(pair), ([1, 1, 1], (1, 2, 2)), ((1, 1, 1), [1, 2, 2]),
                 ((1, 1), (1, 2, 2)), ((1, 1, 1, 1), (1, 2, 2)), ((True, 1, 1), (1, 2, 2)), ((1, 1, True), (1, 2, 2)),
                 ((1, 1, False), (1, 2, 2)), ((1, 1, 1), (True, 2, 2)), ((1, 1, None), (1, 2, 2)),
                 ((1, 1, "1"), (1, 2, 2)), ("111", (1, 2, 2)), ((1, 1, 1), "122"), (None, None), (pair, pair), (pair,),
                 ((1, 1, (1,)), (1, 2, 2)), ((1, 1, 1), ((1,), 2, 2)), ({0: 1}, (1, 2, 2)), ((1, 1, 1), {}), nested(12)]
        for value in wrong + ODD:
            same(self, shown(2, ROW, BOX, value), None)
        for value in ODD:
            same(self, shown(2, ROW, BOX, (value, ROW)), None)
            same(self, shown(2, ROW, BOX, ((1, 1, 1), value)), None)
            same(self, shown(2, ROW, BOX, ((1, 1, value), ROW)), None)
            same(self, shown(2, ROW, BOX, ((1, 1, 1), (1, 2, value))), None)


class AlwaysBestTest(TestCase):
    def test_rows_of_the_document(self):
        same(self, always_best(2, (1, 2, 2), ((4, 9), (1, 1), (0, 4))), True)
        same(self, always_best(2, (1, 2, 2), ((3, 9), (1, 1), (0, 4))), False)

    def test_all_weights_when_only_one_row_can_be_best(self):
        for signs in range(2, 7):
            same(self, always_best(signs, (1,) * signs, ((0, BIG),) * signs), True)
            same(self, always_best(signs, (2,) + (1,) * (signs - 1), ((0, BIG),) * signs), False)
            same(self, always_best(signs, (2,) + (1,) * (signs - 1), ((0, 0),) * signs), True)


class MendedTest(TestCase):
    def test_small_rows_by_going_through_all(self):
        for signs, keys, most in [(2, 1, 3), (2, 2, 3), (2, 3, 3), (2, 4, 3), (2, 5, 3), (3, 3, 2), (3, 4, 2), (6, 3, 2)]:
            fitting = rows_within(signs, keys, most)
            for row in all_rows(keys, most):
                if len(row) == keys:
                    others = [other for other in fitting if all(one <= two for one, two in zip(row, other))]
                    first = min(((sum(other), other) for other in others), default=(0, None))[1]
                    same(self, mended(signs, row, most), first)

    def test_great_rows_by_going_through_all_cuts(self):
        seed = Random(12)
        for signs, keys, most in [(2, 16, 4), (2, 16, 7), (2, 10, 16), (3, 14, 5), (6, 12, 2)]:
            for row in [(1,) * keys, (0,) * keys, tuple(seed.randrange(most + 1) for _ in range(keys))]:
                costs = [[length if length >= own else None for length in range(most + 1)] for own in row]
                told = least_by_cuts(signs, costs, most)
                same(self, mended(signs, row, most), None if told is None else told[1])

    def test_a_row_that_fits_stays(self):
        for signs, row in [(2, (1, 2, 3, 3)), (2, (16,) * 16), (6, (16, 1, 16)), (3, (0,)), (2, (4,) * 16), (5, (7, 3))]:
            for most in (max(row), 16):
                same(self, mended(signs, row, max(most, 1)), row)

    def test_rows_that_cannot_be_mended(self):
        for signs, row, most in [(2, (0,) * 3, 1), (2, (1, 2, 1, 0, 0), 2), (2, (3,) * 7 + (0,) * 2, 3), (6, (0,) * 7, 1),
                                 (3, (1,) * 4, 1), (2, (4,) * 15 + (3,) * 2, 4)]:
            same(self, mended(signs, row, most), None)
        same(self, [mended(2, (0,) * 5, 2), mended(3, (0,) * 4, 1), mended(2, (3, 1, 1), 3)], [None, None, (3, 2, 1)])

    def test_one_key(self):
        for signs in range(2, 7):
            for length in (0, 1, 16):
                same(self, mended(signs, (length,), 16), (length,))

    def test_16_keys(self):
        same(self, mended(2, (0,) * 16, 4), (4,) * 16)
        same(self, mended(4, (1,) * 16, 2), (2,) * 16)
        same(self, mended(2, (1,) * 16, 3), None)
        same(self, mended(2, (16,) * 15 + (0,), 16), (16,) * 15 + (1,))
        same(self, mended(6, (1,) * 16, 16), (1,) * 4 + (2,) * 12)
        same(self, mended(2, (15,) * 15 + (0,), 16), (15,) * 15 + (1,))

    def test_what_is_told_fits_and_no_length_is_less(self):
        seed = Random(5)
        for signs in range(2, 7):
            for _ in range(8):
                most = seed.randrange(5, 17)
                row = tuple(seed.randrange(most + 1) for _ in range(seed.randrange(1, 17)))
                told = mended(signs, row, most)
                if told is not None:
                    same(self, row_error(signs, told), None)
                    same(self, mended(signs, told, most), told)
                    self.assertTrue(all(one <= two <= most for one, two in zip(row, told)))
                same(self, told == row, row_error(signs, row) is None)
