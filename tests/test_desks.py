"""[20] [21] A desk: each line with its answers right and wrong, and the history."""

from unittest import TestCase

from ordercodes import errors
from ordercodes.bounds import MAX_WEIGHT
from ordercodes.codes import joined, lengths
from ordercodes.desks import Desk
from ordercodes.gaps import free, pages, room
from ordercodes.indexes import Index
from ordercodes.rows import code_at, count
from ordercodes.texts import read_code, read_row
from tests.helper import ODD, C, same

NO_STRINGS = [value for value in ODD if not isinstance(value, str)] + [0, 1, b"row", ("row",), ["row"], {"row": "row"}]
CODES = [(2, C, 3), (2, ((0,), (1, 1)), 3), (6, ((),), 2), (3, ((0,), (2, 1), (2, 2, 0)), 5),
         (2, code_at(2, (4,) * 16, 0), 16),
         (6, code_at(6, (3, 1, 16, 2, 2, 5, 16), 12345), 16), (2, code_at(2, tuple(range(1, 16)) + (15,), 0), 15)]
# Lines that each desk answers so whatever its index.
WHATS = [
    "", " ", "    ", "what", "x", "Put 1 10", "PUT 1 10", "put", "put 1", "put 1 10 0", "put 10", "put x 10", "put 1 x",
    "put -1 10", "put 100 10",
    "put 001 10", "put +1 10", "put 1 1x", "put 1 10,", "put 1 1.0", "put 1 --", "put 1 -0", "put 1 9", "put 1 6",
    "put 1 17 1", "put 1\n10", "put\n1 10",
    "put 1 10\n", "\nput 1 10", "put 1 \n10", "put 1 " + "0" * 17, "put 1  \t 10", "put - 10", "put 1_0 1", "put1 10",
    "squeeze", "squeeze x", "squeeze 1 1", "squeeze -1", "squeeze 001", "squeeze 100", "squeeze 1\n", "squeeze 1.",
    "squeeze1", "squeez 1", "squeeze -",
    "take", "take x", "take 1 1", "take -1", "take 001", "take 100", "take 1\n", "take\n1", "take1", "taken 1",
    "take +1",
    "recode", "recode ", "recode x", "recode 1 x", "recode -1", "recode 1 -1", "recode 12345678901234",
    "recode 1 00000000000001", "recode 1\n1",
    "recode 1 1 1 1\n", "recode 1,1", "recode 1.0", "recode +1", "recode 1_0", "recodes 1",
    "undo 1", "undo undo", "undo\n", "Undo", "undo.", "undoing",
    "word", "word x", "word 0 0", "word -1", "word 000", "word 100", "word 0\n", "words 0", "word -",
    "keys", "keys -", "keys x", "keys 0 0", "keys 0x", "keys 6", "keys 9", "keys 0\n", "keys 0,1", "keys -1", "key 0",
    "free", "free x", "free 0 0", "free -1", "free 000", "free 100", "free 0\n", "free -",
    "room", "room x", "room 0 0", "room -1", "room 000", "room 100", "room 0\n", "rooms 0",
    "pages", "pages x", "pages 2 2", "pages -1", "pages 002", "pages 100", "pages 0", "pages 00", "pages 17",
    "pages 99", "pages 2\n", "page 2",
    "moved 1", "moved\n", "move", "moved moved", "row 1", "row\n", "rows", "\nrow", "text 1", "text\n", "texts",
    "text -", "0", "1 10", "10", "-",
]


def desk_of(signs, code, most):
    return Desk(Index(signs, code, most))


def told(case, desk, pairs):
    """Fail unless the desk answers each line as told."""
    for line, answer in pairs:
        same(case, (line, desk.say(line)), (line, answer))


def full_desk():
    """A desk with an index with 20 deeds in effect."""
    desk = desk_of(2, C, 4)
    for _ in range(10):
        desk.say("take 0")
        desk.say("put 0 0")
    return desk


class DocumentTest(TestCase):
    def test_the_lines_of_the_document(self):
        told(self, desk_of(2, C, 3), [
            ("word 2", "110"), ("keys 100111", "1 0 3"), ("take 1", "ok 1"), ("free 1", "10"), ("room 1", "2"),
            ("put 1 10", "ok 2"),
            ("put 1 10", "no Crowded"), ("pages 2", "2"), ("keys 11", "no BadRow")])

    def test_this_very_index(self):
        index = Index(2, C, 3)
        desk, other = Desk(index), Desk(index=index)
        same(self, desk.say("take 1"), "ok 1")
        same(self, (index.code, index.version), ((C[0],) + C[2:], 1))
        same(self, other.say("undo"), "ok 0")
        index.recode((1, 1, 1, 1))
        same(self, (desk.say(line="moved"), desk.say("text"), other.say("row")), ("0 1 2 3", "00 01 10 11", "2 2 2 2"))


class DeedsTest(TestCase):
    def test_put(self):
        told(self, desk_of(2, ((0,), (1, 1)), 3), [
            ("put 1 1000", "no BadIndex"), ("put 1 -", "no Crowded"), ("put 0 10", "no Crowded"),
            ("put 3 10", "no NoGap"), ("put 99 10", "no NoGap"),
            ("put 01 100", "ok 1"), ("text", "0 100 11"), ("put 2 101", "ok 2"), ("text", "0 100 101 11"),
            ("put 00 1", "no Crowded"),
            ("put 1 " + "1" * 16, "no BadIndex"), ("put 9 " + "1" * 16, "no NoGap")])
        told(self, desk_of(6, ((0,), (5,)), 16), [("put 1 " + "1" * 16, "ok 1"), ("put 2 2345", "ok 2"),
                                                  ("text", "0 1111111111111111 2345 5")])
        told(self, desk_of(2, code_at(2, (4,) * 16, 0), 16), [("put 16 0", "no TooMany"), ("put 17 0", "no NoGap"),
                                                              ("put 0 -", "no TooMany")])

    def test_signs_of_the_index(self):
        for signs in range(2, 7):
            for sign in range(10):
                answer = "ok 1" if sign < signs else "what"
                told(self, desk_of(signs, ((0, 0),), 3), [(f"put 1 0{sign}", answer if sign else "no Crowded")])

    def test_squeeze(self):
        told(self, desk_of(2, C, 3), [("squeeze 1", "ok 1"), ("squeeze 05", "ok 2"), ("squeeze 7", "no NoGap"),
                                      ("squeeze 99", "no NoGap"),
                                      ("squeeze 00", "ok 3"), ("squeeze 3", "ok 4"), ("row", "3 3 3 3 3 3 3 3"),
                                      ("squeeze 8", "no TooMany"),
                                      ("squeeze 9", "no NoGap")])

    def test_take(self):
        told(self, desk_of(2, C, 3), [("take 4", "no NoKey"), ("take 99", "no NoKey"), ("take 03", "ok 1"),
                                      ("take 0", "ok 2"), ("take 1", "ok 3"),
                                      ("text", "10"), ("take 0", "no LastKey"), ("take 1", "no NoKey")])

    def test_recode(self):
        told(self, desk_of(2, C, 16), [
            ("recode 5 1 1 3", "ok 1"), ("row", "1 3 3 2"), ("recode 1 1 1", "no BadWeights"),
            ("recode 1 1 1 1 1", "no BadWeights"),
            ("recode 1000000000001 1 1 1", "no BadWeights"), ("recode 1000000000000 0000000000001 01 0", "ok 2"),
            ("row", "1 2 3 3"),
            ("recode " + "1 " * 1490, "no BadWeights"), ("recode 0 0 0 9999999999999", "no BadWeights"),
            ("recode 0 0 0 00", "ok 3"), ("row", "1 2 3 3")])
        told(self, desk_of(2, ((0,),), 16), [(f"recode {MAX_WEIGHT}", "ok 1"), ("text", "-")])

    def test_undo(self):
        told(self, desk_of(2, C, 3), [("undo", "no NothingToUndo"), ("take 0", "ok 1"), ("take 0", "ok 2"),
                                      ("undo", "ok 1"), ("undo", "ok 0"),
                                      ("undo", "no NothingToUndo"), ("text", "0 10 110 111")])

    def test_full(self):
        desk = full_desk()
        told(self, desk, [(line, "no Full") for line in ("put 0 0", "put 99 1111111", "squeeze 0", "squeeze 99",
                                                         "take 0", "take 99", "recode 1 1 1 1", "recode 1")])
        told(self, desk, [("put 1 2", "what"), ("recode", "what"), ("undo", "ok 19"), ("take 0", "ok 20"),
                          ("take 0", "no Full")])


class QuestionsTest(TestCase):
    def test_words(self):
        for signs, code, most in CODES:
            desk = desk_of(signs, code, most)
            for key in range(100):
                for text in {str(key), f"{key:02d}"}:
                    answer = "".join(str(sign) for sign in code[key]) or "-" if key < len(code) else "no NoKey"
                    told(self, desk, [(f"word {text}", answer)])

    def test_keys(self):
        for signs, code, most in CODES:
            desk = desk_of(signs, code, most)
            if code != ((),):
                for keys in [(0,), (len(code) - 1,), tuple(range(len(code))), tuple(range(len(code)))[::-1] * 3]:
                    line = "keys " + "".join(str(sign) for sign in joined(code, keys))
                    told(self, desk, [(line, " ".join(str(key) for key in keys)), (line + str(signs), "what"),
                                      (line + "-", "what")])
        told(self, desk_of(2, C, 3), [("keys 1", "no BadRow"), ("keys 0110", "0 2"), ("keys 01101", "no BadRow"),
                                      ("keys 2", "what"), ("keys 02", "what"),
                                      ("keys " + "0" * 2990, " ".join(["0"] * 2990)),
                                      ("keys " + "1" * 2990, "no BadRow")])
        told(self, desk_of(6, ((),), 3), [("keys 0", "no BadRow"), ("keys 5", "no BadRow"), ("keys -", "what")])
        told(self, desk_of(3, ((0,), (2,)), 3), [("keys 2", "1"), ("keys 1", "no BadRow"), ("keys 3", "what")])

    def test_free_and_room(self):
        for signs, code, most in CODES:
            desk = desk_of(signs, code, most)
            for gap in range(len(code) + 1):
                words = ["".join(str(sign) for sign in word) for word in free(signs, code)[gap]]
                for text in {str(gap), f"{gap:02d}"}:
                    told(self, desk, [(f"free {text}", " ".join(words) or "nothing"),
                                      (f"room {text}", str(room(signs, code, gap, most)))])
            for gap in range(len(code) + 1, 100):
                told(self, desk, [(f"free {gap}", "no NoGap"), (f"room {gap}", "no NoGap")])
        told(self, desk_of(2, C, 3), [("free 0", "nothing"), ("room 4", "0"), ("free 9", "no NoGap"),
                                      ("room 9", "no NoGap")])
        told(self, desk_of(6, ((0,), (1,)), 16), [("room 2", str(4 * 6 ** 15)), ("free 2", "2 3 4 5")])

    def test_pages(self):
        for signs, code, most in CODES:
            desk = desk_of(signs, code, most)
            for size in range(100):
                answer = " ".join(str(key) for key in pages(code, size)) or "nothing" if 1 <= size <= 16 else "what"
                for text in {str(size), f"{size:02d}"}:
                    told(self, desk, [(f"pages {text}", answer)])
        told(self, desk_of(2, C, 3), [("pages 1", "1 2 3"), ("pages 4", "nothing"), ("pages 16", "nothing"),
                                      ("pages 17", "what"), ("pages 0", "what")])

    def test_moved(self):
        told(self, desk_of(2, C, 3), [("moved", "nothing"), ("take 0", "ok 1"), ("moved", "nothing"), ("undo", "ok 0"),
                                      ("recode 1 1 1 1", "ok 1"),
                                      ("moved", "0 1 2 3"), ("take 9", "no NoKey"), ("moved", "0 1 2 3"),
                                      ("undo", "ok 0"), ("moved", "0 1 2 3"),
                                      ("recode 8 4 1 1", "ok 1"), ("moved", "nothing")])

    def test_row_and_text(self):
        for signs, code, most in CODES:
            desk = desk_of(signs, code, most)
            same(self, (read_row(desk.say("row")), read_code(signs, desk.say("text"))), (lengths(code), code))
        told(self, desk_of(2, C, 3), [("row", "1 2 3 3"), ("text", "0 10 110 111")])
        told(self, desk_of(4, ((),), 3), [("row", "0"), ("text", "-"), ("word 0", "-")])


class LinesTest(TestCase):
    def test_more_blanks_do_not_matter(self):
        for line in ["word 2", "keys 100111", "take 1", "free 1", "room 1", "put 1 10", "put 1 10", "pages 2",
                     "keys 11", "moved", "row", "text",
                     "recode 1 1 1 1", "undo", "squeeze 0"]:
            answers = set()
            for told_line in [line, " " + line, line + " ", "   " + line.replace(" ", "    ") + "     "]:
                desk = desk_of(2, C, 3)
                desk.say("take 0")
                answers.add(desk.say(told_line))
            same(self, len(answers), 1)
            self.assertNotEqual(answers, {"what"})

    def test_lines_that_are_none_of_these(self):
        for signs, code, most in CODES + [(2, ((1, 1), ), 2)]:
            index = Index(signs, code, most)
            desk = Desk(index)
            for line in WHATS:
                told(self, desk, [(line, "what"), (f"  {line}  ", "what")])
            same(self, (index.code, index.version, index.moved), (code, 0, ()))
        told(self, full_desk(), [(line, "what") for line in WHATS])

    def test_values_that_are_no_strings(self):
        index = Index(2, C, 3)
        desk = Desk(index)
        for value in [*NO_STRINGS, index, desk, errors.Full()]:
            same(self, desk.say(value), "what")
            same(self, desk.history[-1], (None, "what"))
        same(self, (index.code, index.version), (C, 0))

    def test_odd_strings(self):
        desk = desk_of(2, C, 3)
        for value in ODD:
            if isinstance(value, str):
                told(self, desk, [(value, "what")])

    def test_all_errors_that_a_line_can_meet(self):
        names = set()
        for desk, lines in [(desk_of(2, C, 3), ["undo", "put 0 0", "put 9 0", "put 0 0000", "take 9", "recode 1",
                                                "keys 11"]), (full_desk(), ["take 0"]),
                            (desk_of(2, ((0,), (1,)), 1), ["squeeze 0", "take 0", "take 0"])]:
            names |= {answer for answer in [desk.say(line) for line in lines] if answer.startswith("no ")}
        same(self, sorted(names), ["no BadIndex", "no BadRow", "no BadWeights", "no Crowded", "no Full", "no LastKey",
                                   "no NoGap", "no NoKey",
                                   "no NothingToUndo", "no TooMany"])


class HistoryTest(TestCase):
    def test_nothing_said(self):
        same(self, desk_of(2, C, 3).history, ())

    def test_the_last_ten_pairs(self):
        desk = desk_of(2, C, 3)
        pairs = []
        for line in ["word 2", " row ", None, "put 9 9", "take 9", "", 5, "take 0", "moved", ["row"], "undo", "undo",
                     "text", True, "keys 0", "row\n"]:
            answer = desk.say(line)
            pairs.append((line if isinstance(line, str) else None, answer))
            same(self, desk.history, tuple(pairs[-10:]))
        same(self, desk.history[0], (None, "what"))

    def test_the_tuple_told_is_not_changed(self):
        desk = desk_of(2, C, 3)
        desk.say("row")
        before = desk.history
        desk.say("text")
        same(self, (before, len(desk.history)), ((("row", "1 2 3 3"),), 2))

    def test_it_can_only_be_read(self):
        desk = desk_of(2, C, 3)
        with self.assertRaises(AttributeError):
            desk.history = ()

    def test_each_desk_has_its_own(self):
        index = Index(2, C, 3)
        one, other = Desk(index), Desk(index)
        one.say("take 0")
        other.say("row")
        same(self, (one.history, other.history), ((("take 0", "ok 1"),), (("row", "2 3 3"),)))

    def test_what_is_said_within_a_trial_stays(self):
        index = Index(2, C, 3)
        desk = Desk(index)
        same(self, index.tried(lambda told: (desk.say("take 0"), desk.say("text"))), ("ok 1", "10 110 111"))
        same(self, (desk.history, index.code), ((("take 0", "ok 1"), ("text", "10 110 111")), C))

    def test_lines_as_they_were_said(self):
        desk = desk_of(2, C, 3)
        for line in ["  word   02 ", "row\n", "x" * 3000]:
            desk.say(line)
        same(self, desk.history, (("  word   02 ", "110"), ("row\n", "what"), ("x" * 3000, "what")))


class ManyDeedsTest(TestCase):
    def test_deeds_by_lines_are_as_by_calls(self):
        many = count(2, (3, 4, 5, 4, 4))
        index = Index(2, code_at(2, (3, 4, 5, 4, 4), many // 2), 5)
        twin = Index(2, index.code, 5)
        desk = Desk(index)
        for line, call in [("squeeze 2", lambda: twin.squeeze(2)), ("take 0", lambda: twin.take(0)),
                           ("recode 3 1 4 1 5", lambda: twin.recode((3, 1, 4, 1, 5))),
                           ("undo", lambda: twin.undo()), ("squeeze 5", lambda: twin.squeeze(5)),
                           ("put 06 11111", lambda: twin.put(6, (1,) * 5))]:
            try:
                answer = f"ok {call()}"
            except errors.CodeError as error:
                answer = f"no {type(error).__name__}"
            same(self, desk.say(line), answer)
            same(self, (index == twin, index.moved, index.version), (True, twin.moved, twin.version))
