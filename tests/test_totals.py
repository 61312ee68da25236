"""[9] [10] Totals, the least one and the first row that has it, and ledgers."""

from itertools import product
from random import Random
from unittest import TestCase

from ordercodes.bounds import MAX_LONG, MAX_WEIGHT
from ordercodes.rows import row_error
from ordercodes.totals import best_row, is_best, is_ledger, least_total, ledger, total
from tests.helper import ODD, all_rows, least_by_cuts, nested, only_tuples, rows_within, same

# Signs, keys and the most signs of codes all of which can be gone through.
SMALL = [(2, 1, 3), (2, 2, 3), (2, 3, 3), (2, 4, 4), (2, 5, 4), (2, 5, 3), (3, 3, 3), (3, 4, 2), (3, 5, 2), (4, 3, 2),
         (6, 3, 2)]
BIG = MAX_WEIGHT


def some_weights(keys, many):
    """Weights for so many keys: all alike, some 0, rising, falling, the greatest ones, and others from a fixed seed."""
    seed = Random(keys)
    told = [(0,) * keys, (1,) * keys, (BIG,) * keys, tuple(range(keys)), tuple(range(keys, 0, -1)),
            tuple(2 ** key for key in range(keys)), (0,) * (keys - 1) + (BIG,), (BIG,) + (0,) * (keys - 1)]
    told += [tuple(seed.choice((0, 1, 2, 3, 5, 8, BIG)) for _ in range(keys)) for _ in range(many)]
    return told + [tuple(seed.randrange(BIG + 1) for _ in range(keys)) for _ in range(many)]


def slow_total(weights, row):
    return sum(weights[key] for key in range(len(row)) for _ in range(row[key]))


def by_length(weights, most):
    """The costs of the lengths up to most by the weights."""
    return [[weight * length for length in range(most + 1)] for weight in weights]


def cuts_of(first, end, most):
    """All ways to cut the stretch from first to end into 2 to so many stretches, each as the list of its ends."""
    found = [[]] if first == end else []
    for cut in range(first + 1, end + 1) if most else ():
        found += [[cut] + rest for rest in cuts_of(cut, end, most - 1)]
    return found


def holds(signs, weights, told):
    """Tell whether a ledger holds, by going through all cuts of all stretches."""
    def number(first, end):
        return 0 if end - first == 1 else told[first][end - first - 2]

    for first in range(len(weights)):
        for end in range(first + 2, len(weights) + 1):
            for ends in cuts_of(first, end, signs):
                parts = sum(number(*part) for part in zip([first] + ends, ends))
                if len(ends) > 1 and number(first, end) > sum(weights[first:end]) + parts:
                    return False
    return True


class TotalTest(TestCase):
    def test_each_weight_as_often_as_the_length(self):
        for keys in range(1, 5):
            for row in [(0,) * keys, tuple(range(keys)), tuple(range(16, 16 - keys, -1))]:
                for weights in some_weights(keys, 3):
                    if max(weights) < 10 ** 3:
                        same(self, total(weights, row), slow_total(weights, row))
        same(self, [total((7,), (0,)), total((0, 0), (16, 16)), total((BIG,) * 16, (16,) * 16)], [0, 0, 256 * BIG])


class LeastTotalTest(TestCase):
    def test_small_rows_by_going_through_all(self):
        for signs, keys, most in SMALL:
            for weights in some_weights(keys, 12):
                rows = rows_within(signs, keys, most)
                least = min((total(weights, row), row) for row in rows)
                same(self, least_total(signs, weights, most), least[0])
                same(self, best_row(signs, weights, most), least[1])

    def test_all_weights_of_few_values_with_each_most(self):
        for weights in product((0, 1, 2, 4), repeat=4):
            for most in (2, 3):
                least = min((total(weights, row), row) for row in rows_within(2, 4, most))
                same(self, (least_total(2, weights, most), best_row(2, weights, most)), least)

    def test_great_rows_by_going_through_all_cuts(self):
        for signs, keys, mosts in [(2, 9, (4, 5, 8)), (2, 16, (4, 6)), (3, 12, (3, 4)), (6, 14, (2,))]:
            for weights in some_weights(keys, 1)[2:]:
                for most in mosts:
                    least = least_by_cuts(signs, by_length(weights, most), most)
                    same(self, (least_total(signs, weights, most), best_row(signs, weights, most)), least)

    def test_one_key(self):
        for signs in range(2, 7):
            for weight in (0, 1, BIG):
                for most in (1, 7, 16):
                    same(self, least_total(signs, (weight,), most), 0)
                    same(self, best_row(signs, (weight,), most), (0,))

    def test_more_keys_than_words(self):
        for signs, keys, most in [(2, 3, 1), (2, 5, 2), (2, 9, 3), (3, 4, 1), (3, 10, 2), (6, 7, 1), (2, 16, 3), (5, 6, 1)]:
            for weights in some_weights(keys, 2):
                same(self, (least_total(signs, weights, most), best_row(signs, weights, most)), (None, None))
            fewer = weights[:signs ** most]
            same(self, best_row(signs, fewer, most), (most,) * signs ** most)
            same(self, least_total(signs, fewer, most), most * sum(fewer))

    def test_all_weights_alike(self):
        same(self, least_total(2, (BIG,) * 16, 16), 64 * BIG)
        same(self, best_row(2, (BIG,) * 16, 16), (4,) * 16)
        same(self, best_row(4, (3,) * 16, 2), (2,) * 16)
        same(self, best_row(6, (1,) * 16, 16), (1,) * 4 + (2,) * 12)

    def test_weights_0_take_the_first_row_of_all(self):
        same(self, least_total(2, (0,) * 16, 16), 0)
        same(self, best_row(2, (0,) * 16, 16), tuple(range(1, 16)) + (15,))
        same(self, best_row(2, (0,) * 16, 5), (1, 4) + (5,) * 14)
        same(self, best_row(3, (0,) * 5, 16), (1, 1, 2, 2, 2))

    def test_weights_twice_as_great_each_make_long_words(self):
        weights = tuple(2 ** key for key in range(16))
        same(self, best_row(2, weights, 16), (15,) + tuple(range(15, 0, -1)))
        self.assertGreater(least_total(2, weights, 14), least_total(2, weights, 15))
        same(self, least_total(2, weights, 15), least_total(2, weights, 16))

    def test_more_signs_and_longer_words_are_never_worse(self):
        for weights in some_weights(13, 2):
            told = [[least_total(signs, weights, most) for most in range(4, 17)] for signs in range(2, 7)]
            for one, other in zip(told, told[1:]):
                self.assertTrue(all(ahead >= behind for ahead, behind in zip(one, other)))
            for one in told:
                same(self, one, sorted(one, reverse=True))


class IsBestTest(TestCase):
    def test_small_rows_by_going_through_all(self):
        for signs, keys, most in [(2, 1, 2), (2, 2, 3), (2, 3, 3), (2, 4, 3), (3, 3, 2)]:
            rows = rows_within(signs, keys, most)
            for weights in some_weights(keys, 2):
                least = min(total(weights, row) for row in rows)
                for row in all_rows(keys, most + 1):
                    if len(row) == keys:
                        told = row in rows and total(weights, row) == least
                        same(self, is_best(signs, weights, row, most), told)

    def test_great_rows(self):
        for signs in (2, 3, 6):
            for weights in some_weights(16, 2):
                row = best_row(signs, weights, 16)
                same(self, is_best(signs, weights, row, 16), True)
                same(self, is_best(signs, weights, row, max(row)), True)
                same(self, is_best(signs, weights, row, max(row) - 1), False)
                same(self, is_best(signs, weights, (16,) * 16, 16), set(weights) == {0})

    def test_a_row_that_does_not_fit_is_not_best(self):
        same(self, [is_best(2, (0, 0, 0), row, 16) for row in [(1, 1, 1), (2, 1, 2), (0, 0, 0), (1, 2, 2), (16, 16, 16)]],
             [False, False, False, True, True])

    def test_more_keys_than_words(self):
        same(self, is_best(2, (0, 0, 0), (1, 2, 2), 1), False)


class LedgerTest(TestCase):
    def test_the_ledger_told_holds_and_tells_the_least_total(self):
        for signs in range(2, 7):
            for keys in (2, 3, 5, 8, 16):
                for weights in some_weights(keys, 2):
                    told = ledger(signs, weights)
                    same(self, [len(row) for row in told], list(range(keys - 1, 0, -1)))
                    self.assertTrue(only_tuples(told))
                    same(self, is_ledger(signs, weights, told), True)
                    same(self, told[0][-1], least_total(signs, weights, MAX_LONG))

    def test_small_ledgers_hold_by_going_through_all_cuts(self):
        for signs in (2, 3, 4):
            for weights in some_weights(5, 3):
                self.assertTrue(holds(signs, weights, ledger(signs, weights)))

    def test_one_key(self):
        for signs in range(2, 7):
            same(self, ledger(signs, (BIG,)), ())
            same(self, is_ledger(signs, (BIG,), ()), True)
            for value in [*ODD, ((),), (0,), 0]:
                same(self, is_ledger(signs, (BIG,), value), False)

    def test_all_small_ledgers_by_going_through_all_cuts(self):
        for signs, weights in [(2, (1, 0, 2)), (3, (1, 0, 2)), (2, (0, 0, 0)), (6, (2, 1, 1))]:
            for one, all_three, other in product(range(-2, 6), repeat=3):
                value = ((one, all_three), (other,))
                same(self, is_ledger(signs, weights, value), holds(signs, weights, value))

    def test_a_ledger_of_four_keys_with_some_numbers_changed(self):
        for signs in (2, 3, 4):
            for weights in [(0, 0, 0, 0), (4, 0, 1, 3)]:
                told = ledger(signs, weights)
                for changes in product((-BIG, -1, 0, 1), repeat=6):
                    value = ((told[0][0] + changes[0], told[0][1] + changes[1], told[0][2] + changes[2]),
                             (told[1][0] + changes[3], told[1][1] + changes[4]), (told[2][0] + changes[5],))
                    same(self, is_ledger(signs, weights, value), holds(signs, weights, value))

    def test_no_code_has_less_than_an_accepted_ledger_tells(self):
        seed = Random(10)
        for signs, keys, most in [(2, 4, 4), (3, 4, 2), (2, 5, 4)]:
            for weights in some_weights(keys, 1):
                least = min(total(weights, row) for row in rows_within(signs, keys, most))
                for _ in range(60):
                    value = tuple(tuple(number + seed.choice((-2, -1, 0, 0, 0, 1)) for number in row)
                                  for row in ledger(signs, weights))
                    if is_ledger(signs, weights, value):
                        self.assertLessEqual(value[0][-1], least)

    def test_raising_any_number_of_the_told_ledger_breaks_it(self):
        for signs in (2, 3, 6):
            weights = some_weights(16, 1)[-1]
            told = ledger(signs, weights)
            for key, row in enumerate(told):
                for place in range(len(row)):
                    changed = row[:place] + (row[place] + 1,) + row[place + 1:]
                    same(self, is_ledger(signs, weights, told[:key] + (changed,) + told[key + 1:]), False)

    def test_numbers_below_0_and_of_many_digits(self):
        same(self, is_ledger(2, (5, 1, 1), ((-1, -1), (-1,))), True)
        same(self, is_ledger(2, (5, 1, 1), ((-10 ** 39, -10 ** 39 + 7), (2,))), True)
        same(self, is_ledger(2, (5, 1, 1), ((-10 ** 39, -10 ** 39 + 8), (2,))), False)
        same(self, is_ledger(2, (5, 1, 1), ((10 ** 39, 9), (2,))), False)
        same(self, is_ledger(2, (0, 0), ((10 ** 39,),)), False)

    def test_values_that_are_no_ledgers(self):
        wrong = [((6, 9),), ((6, 9), (2,), ()), ((6, 9, 0), (2,)), ((6,), (2,)), ((6, 9), (2, 2)), ((6, 9), ()), (6, 9, 2),
                 [(6, 9), (2,)], ([6, 9], (2,)), ((6, 9), [2]), ((6, 9), (None,)), ((6, 9), ("2",)), ((6, 9), "2"),
                 ((True, 9), (2,)), ((6, True), (2,)), ((6, 9), (True,)), ((6, 9), (False,)), ((6, 9), ((2,),)),
                 ((6, 9), {2: 2}), ((6, 9), {0: 2}), (((6, 9), (2,)),), ((6, 9), 2), (None, (2,)), nested(12), (), ((), ())]
        for value in wrong + ODD:
            for signs in (2, 6):
                same(self, is_ledger(signs, (5, 1, 1), value), False)
        same(self, is_ledger(2, (5, 1, 1), ((1, 1), (1,))), True)
        same(self, is_ledger(2, (5, 1, 1), ((0, 0), (0,))), True)

    def test_ledgers_are_not_rows_of_weights_with_other_keys(self):
        told = ledger(2, (5, 1, 1, 3))
        for weights in [(5,), (5, 1), (5, 1, 1), (5, 1, 1, 3, 0)]:
            same(self, is_ledger(2, weights, told), False)

    def test_more_signs_allow_more_cuts(self):
        told = ledger(2, (5, 1, 1, 3))
        same(self, (is_ledger(2, (5, 1, 1, 3), told), is_ledger(3, (5, 1, 1, 3), told)), (True, False))
        same(self, is_ledger(2, (5, 1, 1, 3), ledger(3, (5, 1, 1, 3))), True)


class KindsTest(TestCase):
    def test_rows_told_fit(self):
        for signs in range(2, 7):
            for weights in some_weights(16, 2):
                for most in (4, 16):
                    row = best_row(signs, weights, most)
                    same(self, row_error(signs, row), None)
                    self.assertLessEqual(max(row), most)
                    same(self, total(weights, row), least_total(signs, weights, most))
