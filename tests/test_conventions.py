"""[3] [22] The conventions: kinds of results, arguments left alone, equal calls, names and places."""

import copy
import inspect
from unittest import TestCase

from ordercodes import bounds_of, codes, desks, gaps, held, indexes, ranges, rows, texts, totals
from ordercodes.errors import CodeError
from tests.helper import ODD, C, only_tuples, same

BOX = ((1, 3), (1, 1), (0, 4))
HELD = (None, (1, 0), None)

# Each function of the interface with the names of its arguments, and an example of each.
CALLS = [
    (codes.is_word, {"signs": 2, "value": (0, 1)}),
    (codes.is_start, {"one": (1,), "other": (1, 0)}),
    (codes.parted, {"one": (1, 0), "other": (1, 1, 0)}),
    (codes.code_error, {"signs": 2, "value": C}),
    (codes.code_error, {"signs": 2, "value": ((1,), (0,))}),
    (codes.lengths, {"code": C}),
    (codes.joined, {"code": C, "keys": (1, 0, 3)}),
    (codes.read, {"signs": 2, "code": C, "value": (1, 0, 0, 1, 1, 1)}),
    (rows.row_error, {"signs": 2, "value": (2, 1, 2)}),
    (rows.first_code, {"signs": 2, "row": (3, 2, 3)}),
    (rows.last_code, {"signs": 2, "row": (3, 2, 3)}),
    (rows.words_of, {"signs": 2, "row": (3, 2, 3), "key": 1}),
    (rows.count, {"signs": 2, "row": (3, 2, 3)}),
    (rows.code_at, {"signs": 2, "row": (3, 2, 3), "value": 7}),
    (rows.number_of, {"signs": 2, "code": C}),
    (totals.total, {"weights": (5, 1, 1, 3), "row": (1, 2, 3, 3)}),
    (totals.least_total, {"signs": 2, "weights": (5, 1, 1, 3), "most": 2}),
    (totals.least_total, {"signs": 2, "weights": (5, 1, 1), "most": 1}),
    (totals.best_row, {"signs": 2, "weights": (5, 1, 1, 3), "most": 16}),
    (totals.is_best, {"signs": 2, "weights": (5, 1, 1, 3), "row": (1, 3, 3, 2), "most": 16}),
    (totals.ledger, {"signs": 2, "weights": (5, 1, 1, 3)}),
    (totals.is_ledger, {"signs": 2, "weights": (5, 1, 1), "value": ((6, 9), (2,))}),
    (bounds_of.regret, {"signs": 2, "row": (1, 2, 2), "box": BOX}),
    (bounds_of.worst, {"signs": 2, "row": (1, 2, 2), "box": BOX}),
    (bounds_of.shown, {"signs": 2, "row": (1, 2, 2), "box": BOX, "value": ((1, 1, 4), (2, 2, 1))}),
    (bounds_of.always_best, {"signs": 2, "row": (1, 2, 2), "box": BOX}),
    (bounds_of.mended, {"signs": 2, "row": (1, 1, 1), "most": 3}),
    (gaps.free, {"signs": 2, "code": ((0,), (1, 1))}),
    (gaps.room, {"signs": 2, "code": ((0,), (1, 1)), "gap": 1, "most": 3}),
    (gaps.put_in, {"signs": 2, "code": C, "gap": 1, "many": 2, "most": 4}),
    (gaps.changed, {"signs": 2, "code": C, "gap": 1, "many": 2, "most": 4}),
    (gaps.is_put, {"signs": 2, "code": ((0,),), "gap": 1, "many": 1, "most": 1, "value": ((0,), (1,))}),
    (gaps.pages, {"code": C, "size": 2}),
    (held.held_error, {"signs": 2, "row": (3, 2, 3), "value": (None, (0, 0), None)}),
    (held.first_held, {"signs": 2, "row": (3, 2, 3), "held": HELD}),
    (held.last_held, {"signs": 2, "row": (3, 2, 3), "held": HELD}),
    (held.count_held, {"signs": 2, "row": (3, 2, 3), "held": HELD}),
    (held.least_held, {"signs": 2, "weights": (5, 1, 1), "pins": HELD, "most": 3}),
    (held.best_held, {"signs": 2, "weights": (5, 1, 1), "pins": HELD, "most": 3}),
    (ranges.told_by, {"code": C, "word": (1, 1)}),
    (ranges.told_by, {"code": C, "word": (0, 0)}),
    (ranges.cover, {"signs": 2, "code": C, "first": 0, "last": 2}),
    (ranges.is_cover, {"signs": 2, "code": C, "first": 1, "last": 2, "value": ((1, 0), (1, 1, 0))}),
    (texts.code_text, {"code": C}),
    (texts.row_text, {"row": (1, 16)}),
    (texts.read_code, {"signs": 2, "value": " 0  10 110 111 "}),
    (texts.read_row, {"value": "1 2 3 3"}),
]
INTERFACE = {
    codes: ["is_word", "is_start", "parted", "code_error", "lengths", "joined", "read"],
    rows: ["row_error", "first_code", "last_code", "words_of", "count", "code_at", "number_of"],
    totals: ["total", "least_total", "best_row", "is_best", "ledger", "is_ledger"],
    bounds_of: ["regret", "worst", "shown", "always_best", "mended"],
    gaps: ["free", "room", "put_in", "changed", "is_put", "pages"],
    held: ["held_error", "first_held", "last_held", "count_held", "least_held", "best_held"],
    ranges: ["told_by", "cover", "is_cover"],
    texts: ["code_text", "row_text", "read_code", "read_row"],
}
# Each class of the interface with the names of its arguments, its methods with theirs, its properties and operators.
CLASSES = {
    indexes.Index: (
        ["signs", "code", "most"],
        {"put": ["gap", "word"], "squeeze": ["gap"], "take": ["key"], "recode": ["weights"], "undo": [],
         "tried": ["function"]},
        ["signs", "code", "most", "version", "moved"],
        ["__getitem__", "__len__", "__eq__", "__str__"],
    ),
    desks.Desk: (["index"], {"say": ["line"]}, ["history"], []),
}
PLACES = {indexes.Index: "ordercodes.indexes", desks.Desk: "ordercodes.desks"}
TAKING_ANY_VALUE = [
    lambda value: codes.is_word(2, value),
    lambda value: codes.code_error(2, value),
    lambda value: codes.read(2, C, value),
    lambda value: rows.row_error(2, value),
    lambda value: rows.code_at(2, (3, 2, 3), value),
    lambda value: totals.is_ledger(2, (5, 1, 1), value),
    lambda value: bounds_of.shown(2, (1, 2, 2), BOX, value),
    lambda value: gaps.is_put(2, C, 1, 1, 3, value),
    lambda value: gaps.is_put(2, C, 1, 13, 3, value),
    lambda value: held.held_error(2, (3, 2, 3), value),
    lambda value: ranges.is_cover(2, C, 1, 2, value),
    lambda value: texts.read_code(2, value),
    lambda value: texts.read_row(value),
    lambda value: indexes.Index(value, C, 3).code,
    lambda value: indexes.Index(2, value, 16).code,
    lambda value: indexes.Index(2, C, value).code,
    lambda value: indexes.Index(2, C, 3).put(value, (0, 1)),
    lambda value: indexes.Index(2, ((0,), (1, 1)), 3).put(1, value),
    lambda value: indexes.Index(2, C, 3).squeeze(value),
    lambda value: indexes.Index(2, C, 3).take(value),
    lambda value: indexes.Index(2, C, 3).recode(value),
    lambda value: indexes.Index(2, C, 3)[value],
    lambda value: indexes.Index(2, C, 3) == value,
    lambda value: desks.Desk(indexes.Index(2, C, 3)).say(value),
]
TELLING_WHETHER = [
    lambda value: codes.is_word(2, value),
    lambda value: totals.is_ledger(2, (5, 1, 1), value),
    lambda value: gaps.is_put(2, ((0,), (1,)), 1, 1, 2, value),
    lambda value: ranges.is_cover(2, ((0,), (1,)), 0, 0, value),
    lambda value: indexes.Index(2, C, 3) == value,
    lambda value: indexes.Index(2, C, 3) != value,
]


class InterfaceTest(TestCase):
    def test_functions_are_defined_in_their_files(self):
        for module, names in INTERFACE.items():
            for name in names:
                function = getattr(module, name)
                self.assertTrue(inspect.isfunction(function))
                self.assertEqual((function.__module__, function.__name__), (module.__name__, name))

    def test_each_function_is_called_here(self):
        called = {function for function, _ in CALLS}
        self.assertEqual(called, {getattr(module, name) for module, names in INTERFACE.items() for name in names})

    def test_names_of_arguments(self):
        for function, told in CALLS:
            self.assertEqual(list(inspect.signature(function).parameters), list(told), function.__name__)

    def test_arguments_by_position_and_by_name(self):
        for function, told in CALLS:
            same(self, function(**told), function(*told.values()))
            turned = {name: told[name] for name in reversed(told)}
            same(self, function(**turned), function(*told.values()))


class ClassesTest(TestCase):
    def test_classes_are_defined_in_their_files(self):
        for told, place in PLACES.items():
            self.assertEqual(told.__module__, place)

    def test_names_of_arguments(self):
        for told, (names, methods, _, _) in CLASSES.items():
            self.assertEqual(list(inspect.signature(told).parameters), names)
            for name, others in methods.items():
                self.assertEqual(list(inspect.signature(getattr(told, name)).parameters)[1:], others, name)

    def test_methods_properties_and_operators_are_defined_in_the_class_itself(self):
        for told, (_, methods, properties, operators) in CLASSES.items():
            for name in [*methods, *operators]:
                self.assertTrue(inspect.isfunction(vars(told)[name]), name)
            for name in properties:
                self.assertIsInstance(vars(told)[name], property, name)
                self.assertIsNone(vars(told)[name].fset, name)


class ResultsTest(TestCase):
    def test_results_are_made_of_tuples(self):
        for function, told in CALLS:
            self.assertTrue(only_tuples(function(**told)), function.__name__)

    def test_what_objects_tell_is_made_of_tuples(self):
        index = indexes.Index(2, C, 3)
        desk = desks.Desk(index)
        told = [index.take(0), index.put(0, (0,)), index.squeeze(1), index.recode((1, 1, 1, 1, 1)), index.undo(),
                desk.say("row"), desk.say([])]
        told += [index.signs, index.code, index.most, index.version, index.moved, index[0], len(index), str(index),
                 desk.history]
        self.assertTrue(all(only_tuples(value) for value in told))

    def test_what_tells_whether_something_is_so_is_true_or_false(self):
        for call in TELLING_WHETHER:
            for value in [(), (0,), (2,), None, 0, [], "", ((6, 9), (2,)), ((0,), (1, 0), (1, 1)),
                          ((0, 0), (0, 1), (1,))]:
                self.assertIn(repr(call(value)), ("True", "False"))
        for row in [(1, 2, 2), (2, 2, 1), (1, 1, 1)]:
            self.assertIn(repr(totals.is_best(2, (5, 1, 1), row, 3)), ("True", "False"))
            self.assertIn(repr(bounds_of.always_best(2, row, BOX)), ("True", "False"))
        for one in [(), (0,), (1, 1)]:
            self.assertIn(repr(codes.is_start(one, (0, 1))), ("True", "False"))

    def test_equal_calls_give_equal_results(self):
        for _ in range(2):
            for function, told in CALLS:
                same(self, function(**told), function(**copy.deepcopy(told)))

    def test_results_do_not_depend_on_earlier_calls(self):
        before = [function(**told) for function, told in CALLS]
        for call in TAKING_ANY_VALUE:
            outcomes(call, ODD)
        same(self, [function(**told) for function, told in CALLS], before)


class ArgumentsTest(TestCase):
    def test_values_are_not_changed(self):
        for call in TAKING_ANY_VALUE:
            for value in [*ODD, list(C), {"row": [1, 2]}, ([3, 2, 3],), ([6, 9], [2]), [None, (1, 0), None],
                          ((1, 1, 4), [2, 2, 1])]:
                shown = repr(value)
                outcomes(call, [value])
                self.assertEqual(repr(value), shown)

    def test_any_value_raises_only_the_errors_told(self):
        for call in TAKING_ANY_VALUE:
            for told in outcomes(call, ODD + [C, (3, 2, 3), (), (0,), 0]):
                self.assertNotIsInstance(told, (TypeError, KeyError, IndexError, AttributeError, RecursionError))


def outcomes(call, values):
    """What the call returns for each value, or the error of the package that it raises."""
    found = []
    for value in values:
        try:
            found.append(call(value))
        except (CodeError, LookupError) as error:
            found.append(error)
    return found
