"""[9] [11] [12] [26] Sixteen keys: of the rows with the same total the first one, and each most, by slow ways."""

from random import Random
from unittest import TestCase

from ordercodes.bounds import MAX_WEIGHT
from ordercodes.bounds_of import always_best, mended, regret, shown, worst
from ordercodes.held import best_held, first_held, least_held
from ordercodes.rows import code_at, count, row_error
from ordercodes.totals import best_row, is_best, least_total, total
from tests.helper import least_by_cuts, least_keeping, same

BIG = MAX_WEIGHT
KEYS = 16
MIXED = (16, 9, 3, 16, 12, 5, 7, 16, 3, 16, 11, 16, 4, 16, 6, 5)
# Rows that fit with two signs already: of words as long as can be, of short ones, and of all lengths.
ROWS = [(16,) * KEYS, (4,) * KEYS, MIXED, tuple(range(1, 16)) + (15,), (15, 15) + tuple(range(14, 0, -1)),
        (3, 4, 4, 5, 5, 4, 4, 5, 5, 3, 5, 5, 5, 5, 4, 4), (2, 16, 4, 9, 4, 9, 8, 8, 8, 8, 5, 10, 11, 12, 13, 5)]


def tied_weights(signs):
    """Weights by which many rows have the same total: small ones, great ones that are alike, and both mixed."""
    seed = Random(signs)
    return [(0,) * KEYS, (1,) * KEYS, (BIG,) * KEYS, (0, 1) * 8, (1, 0, 0, 2) * 4, (BIG, 0) * 8,
            tuple(seed.randrange(3) for _ in range(KEYS)),
            tuple(seed.choice((0, 1, BIG - 1, BIG)) for _ in range(KEYS))]


def other_weights(signs):
    """Weights by which few rows have the same total, some of which make long words."""
    seed = Random(10 * signs)
    return [tuple(2 ** key for key in range(KEYS)), tuple(3 ** (KEYS - 1 - key) for key in range(KEYS)),
            tuple(seed.randrange(BIG + 1) for _ in range(KEYS)), tuple(seed.randrange(10) for _ in range(KEYS))]


def boxes(signs):
    """Boxes of small and of great weights, of single points and of all weights."""
    seed = Random(signs)
    told = [((0, 9), (1, 10), (0, 9), (2, 11)) * 4, ((999999 * 10 ** 6, BIG),) * KEYS, ((0, BIG),) * KEYS,
            ((0, 0),) * KEYS,
            ((1, 1),) * KEYS, ((0, 1), (1, 1), (1, 2), (2, 2)) * 4, ((BIG, BIG), (0, 0)) * 8]
    return told + [tuple(tuple(sorted((seed.randrange(4), seed.randrange(4)))) for _ in range(KEYS))]


def by_length(weights, most):
    return [[weight * length for length in range(most + 1)] for weight in weights]


class BestRowTest(TestCase):
    def check(self, signs, weights, most):
        told = least_by_cuts(signs, by_length(weights, min(most, KEYS - 1)), min(most, KEYS - 1)) or (None, None)
        same(self, (least_total(signs, weights, most), best_row(signs, weights, most)), told)
        if told[1] is not None:
            same(self, is_best(signs, weights, told[1], most), True)

    def test_the_first_of_the_rows_with_the_same_total(self):
        for signs in range(2, 7):
            for weights in tied_weights(signs) + other_weights(signs):
                self.check(signs, weights, 16)

    def test_each_most(self):
        for signs in range(2, 7):
            for weights in tied_weights(signs)[5:] + other_weights(signs)[:2]:
                for most in [2, 3, 4, 5, 6, 8, 11, 14] if signs < 4 else [1, 2, 3, 4]:
                    self.check(signs, weights, most)

    def test_fewer_keys_with_each_most(self):
        seed = Random(9)
        for signs in range(2, 7):
            for keys in range(1, KEYS):
                for weights in [(1,) * keys, tuple(seed.randrange(4) for _ in range(keys)),
                                tuple(3 ** key for key in range(keys))]:
                    for most in range(1, 7):
                        told = least_by_cuts(signs, by_length(weights, most), most) or (None, None)
                        same(self, (least_total(signs, weights, most), best_row(signs, weights, most)), told)


class WorstTest(TestCase):
    def check(self, signs, row, box):
        """The other row is the first of those that are furthest below."""
        most = KEYS - 1
        costs = [[-max(low * (own - length), high * (own - length)) for length in range(most + 1)]
                 for own, (low, high) in zip(row, box)]
        least, other = least_by_cuts(signs, costs, most)
        told = worst(signs, row, box)
        same(self, (regret(signs, row, box), told[1], shown(signs, row, box, told)), (-least, other, -least))
        same(self, always_best(signs, row, box), least == 0)
        for weight, own, length, (low, high) in zip(told[0], row, other, box):
            same(self, weight, high if length < own else low)

    def test_the_first_of_the_rows_furthest_below(self):
        for signs in range(2, 7):
            for row in ROWS[:3] if signs > 2 else ROWS:
                for box in boxes(signs):
                    self.check(signs, row, box)

    def test_rows_that_fit_with_more_signs_alone(self):
        for signs in range(3, 7):
            rows = [mended(signs, tuple((5 * key + signs) % 4 for key in range(KEYS)), 16),
                    best_row(signs, tied_weights(signs)[6], 16)]
            for row in rows:
                same(self, row_error(signs, row), None)
                for box in boxes(signs)[::3]:
                    self.check(signs, row, box)

    def test_best_rows_are_always_best_for_their_own_weights(self):
        for signs in range(2, 7):
            for weights in tied_weights(signs) + other_weights(signs):
                row = best_row(signs, weights, 16)
                box = tuple((weight, weight) for weight in weights)
                same(self, (regret(signs, row, box), always_best(signs, row, box), worst(signs, row, box)),
                     (0, True, (weights, row)))


class MendedTest(TestCase):
    def test_the_first_of_the_rows_with_the_same_sum(self):
        seed = Random(12)
        for signs in range(2, 7):
            for most in (2, 3, 4, 5, 7, 16):
                for row in [(0,) * KEYS, (1,) * KEYS, (most,) * 5 + (0,) * 11, (0, 1, 2, 1) * 4,
                            tuple(seed.randrange(most + 1) for _ in range(KEYS)), (most,) * KEYS]:
                    self.check(signs, row, most)

    def check(self, signs, row, most):
        costs = [[length if length >= own else None for length in range(most + 1)] for own in row]
        told = least_by_cuts(signs, costs, most)
        same(self, mended(signs, row, most), None if told is None else told[1])


class BestHeldTest(TestCase):
    def check(self, signs, weights, pins, most):
        told = least_keeping(signs, weights, pins, most) or (None, None)
        same(self, (least_held(signs, weights, pins, most), best_held(signs, weights, pins, most)), told)

    def some_pins(self, signs, row):
        """Pins of codes with the row: none, a few, a third of the words, and nearly all."""
        seed = Random(signs)
        many = count(signs, row)
        found = [(None,) * KEYS]
        for number in (0, many // 2, many - 1):
            code = code_at(signs, row, number)
            lots = [range(0, KEYS, 3), range(1, KEYS, 3), (KEYS - 1,), (0, 8), (7,),
                    [key for key in range(KEYS) if key != 5]]
            lots.append([key for key in range(KEYS) if seed.random() < 0.3])
            found += [tuple(word if key in lot else None for key, word in enumerate(code)) for lot in lots]
        return found

    def test_the_first_of_the_rows_with_the_same_total(self):
        for signs in range(2, 7):
            for row in ROWS[1:3]:
                for pins in self.some_pins(signs, row)[::2]:
                    for weights in tied_weights(signs)[1:6:2] + other_weights(signs)[::3]:
                        self.check(signs, weights, pins, 16)

    def test_no_word_longer_than_most(self):
        for signs in range(2, 7):
            row = mended(signs, tuple((7 * key + signs) % 5 for key in range(KEYS)), 16)
            for pins in self.some_pins(signs, row)[1:]:
                for weights in tied_weights(signs)[1:2] + other_weights(signs)[:2]:
                    for most in range(max(row) - 1, max(row) + 3):
                        self.check(signs, weights, pins, most)

    def test_long_pins_with_little_room_beside_them(self):
        for signs in (2, 3, 6):
            top = signs - 1
            deep = (top, 0) * 7
            for pins in [(None,) * 15 + ((top,) * 15,), ((0,) * 15,) + (None,) * 15,
                         (None,) * 8 + (deep,) + (None,) * 7,
                         (deep + (0,),) + (None,) * 4 + (deep + (1,),) + (None,) * 10,
                         (deep[:9] + (0,),) + (None,) * 4 + (deep[:9] + (1,),) + (None,) * 10]:
                for weights in tied_weights(signs)[1:4:2] + other_weights(signs)[:2]:
                    for most in (14, 15, 16):
                        self.check(signs, weights, pins, most)

    def test_rows_told_keep_the_pins(self):
        for signs in range(2, 7):
            for pins in self.some_pins(signs, MIXED):
                for weights in tied_weights(signs) + other_weights(signs):
                    row = best_held(signs, weights, pins, 16)
                    same(self, total(weights, row), least_held(signs, weights, pins, 16))
                    code = first_held(signs, row, pins)
                    self.assertTrue(all(pin in (None, word) for pin, word in zip(pins, code)))
