"""[19] Texts of codes and of rows, and reading them."""

from itertools import product
from unittest import TestCase

from ordercodes.codes import code_error
from ordercodes.errors import BadIndex, BadText
from ordercodes.rows import code_at, count, first_code
from ordercodes.texts import code_text, read_code, read_row, row_text
from tests.helper import ODD, C, all_rows, codes_within, fields_of, only_tuples, same

GREAT = [(2, (16,) * 16), (6, (16,) * 16), (6, (1, 2, 3, 4, 5, 6, 7, 8, 9, 10, 11, 12, 13, 14, 15, 16)), (3, (0,)),
         (5, (2,) * 16)]
# Of these none is read as a piece; as whole lines the tabs, the new lines and so on are characters like others.
NO_STRINGS = [value for value in ODD if not isinstance(value, str)] + [0, 1, b"0 10", ("0 10 110 111",), C,
                                                                       (1, 2, 3, 3)]


def spread(text):
    """The same pieces with more blanks between, ahead and behind."""
    return [text, " " + text, text + " ", "   " + text.replace(" ", "  ") + "    ", text.replace(" ", " " * 40)]


class CodeTextTest(TestCase):
    def test_texts_of_words(self):
        same(self, code_text(C), "0 10 110 111")
        same(self, code_text(((),)), "-")
        same(self, code_text(((0, 1, 2, 3, 4, 5),)), "012345")
        same(self, code_text(first_code(6, (16, 1))), "0" * 16 + " 1")

    def test_each_code_is_read_back_from_its_text(self):
        for signs, keys, most in [(2, 1, 4), (2, 2, 3), (2, 3, 3), (3, 3, 2), (6, 2, 1)]:
            for code in codes_within(signs, keys, most):
                for text in spread(code_text(code)):
                    same(self, read_code(signs, text), code)
        for signs, row in GREAT:
            for number in (0, count(signs, row) - 1):
                code = code_at(signs, row, number)
                for text in spread(code_text(code)):
                    same(self, read_code(signs, text), code)
                    self.assertTrue(only_tuples(read_code(signs, text)))


class ReadCodeTest(TestCase):
    def test_no_string(self):
        for value in NO_STRINGS:
            same(self, fields_of(self, BadText, read_code, 2, value), {"number": None})

    def test_the_first_piece_that_is_no_word(self):
        for signs, value, number in [
                (2, "2", 0), (2, "0 12", 1), (2, "0 10 110 112", 3), (2, "x", 0), (2, "0 1x", 1), (2, "0 --", 1),
                (2, "0 -1", 1),
                (2, "0 1-", 1), (2, "0,1", 0), (2, "0 10 11\n", 2), (2, "0\n10", 0), (2, "\n0 10", 0),
                (2, "0 \n 10", 1),
                (2, "0 " + "1" * 17, 1), (2, "0" * 17, 0), (2, "0 +1", 1), (2, "0 1_0", 1), (2, "0 1.", 1),
                (2, "(0,)", 0),
                (3, "0 3", 1), (6, "5 6", 1), (6, "0 9 1", 1), (2, "9 x", 0), (2, "  0   2 ", 1), (2, "\t0", 0),
                (2, "0 1\t", 1)]:
            same(self, fields_of(self, BadText, read_code, signs, value), {"number": number})

    def test_signs_are_below_their_number(self):
        for signs in range(2, 7):
            for sign in range(10):
                if sign < signs:
                    same(self, read_code(signs, str(sign)), ((sign,),))
                else:
                    same(self, fields_of(self, BadText, read_code, signs, str(sign)), {"number": 0})

    def test_a_wrong_piece_is_told_ahead_of_a_wrong_code(self):
        same(self, fields_of(self, BadText, read_code, 2, "1 0 x"), {"number": 2})
        same(self, fields_of(self, BadText, read_code, 2, "0 " * 16 + "0 2"), {"number": 17})
        same(self, fields_of(self, BadText, read_code, 2, "- - 2"), {"number": 2})

    def test_words_that_are_no_code(self):
        for signs, value, number, word in [
                (2, "", None, "code"), (2, "     ", None, "code"), (2, "1 0", 1, "order"), (2, "0 0", 1, "order"),
                (2, "0 01", 1, "start"), (2, "0 10 1", 2, "order"), (2, "- 0", 1, "start"), (2, "0 -", 1, "order"),
                (2, "- -", 1, "order"),
                (2, "0 10 11 110", 3, "start"), (6, "0 1 2 5 4", 4, "order"),
                (6, " ".join("012345012345012345"[:17]), None, "code")]:
            same(self, fields_of(self, BadIndex, read_code, signs, value), {"number": number, "word": word})

    def test_16_and_17_words(self):
        code = first_code(2, (5,) * 16)
        same(self, read_code(2, code_text(code)), code)
        same(self, fields_of(self, BadIndex, read_code, 2, code_text(code) + " 11111"),
             {"number": None, "word": "code"})

    def test_words_of_16_signs(self):
        same(self, read_code(2, "0" * 16 + " " + "1" * 16), ((0,) * 16, (1,) * 16))

    def test_the_errors_are_those_of_code_error(self):
        for pieces in product(["-", "0", "1", "00", "01", "10"], repeat=3):
            words = tuple(tuple(int(sign) for sign in piece if sign != "-") for piece in pieces)
            fault = code_error(2, words)
            if fault is None:
                same(self, read_code(2, " ".join(pieces)), words)
            else:
                same(self, fields_of(self, BadIndex, read_code, 2, " ".join(pieces)),
                     {"number": fault[0], "word": fault[1]})

    def test_long_lines(self):
        same(self, read_code(2, " " * 2900 + "0 1" + " " * 90), ((0,), (1,)))
        same(self, fields_of(self, BadText, read_code, 2, "0" * 3000), {"number": 0})
        same(self, fields_of(self, BadIndex, read_code, 2, "0 " * 1500), {"number": None, "word": "code"})


class RowTextTest(TestCase):
    def test_texts_of_rows(self):
        same(self, row_text((1, 16)), "1 16")
        same(self, row_text((0,)), "0")
        same(self, row_text(tuple(range(1, 17))), "1 2 3 4 5 6 7 8 9 10 11 12 13 14 15 16")

    def test_each_row_is_read_back_from_its_text(self):
        for row in [*all_rows(3, 4), tuple(range(1, 17)), (16,) * 16, (0,) * 16, (10, 0, 9), (7,)]:
            for text in spread(row_text(row)):
                same(self, read_row(text), row)
                self.assertTrue(only_tuples(read_row(text)))


class ReadRowTest(TestCase):
    def test_no_string(self):
        for value in NO_STRINGS:
            same(self, fields_of(self, BadText, read_row, value), {"number": None})

    def test_the_first_piece_that_is_no_length(self):
        for value, number in [
                ("17", 0), ("1 17", 1), ("1 2 99", 2), ("00", 0), ("1 00", 1), ("01", 0), ("1 02 x", 1), ("016", 0),
                ("100", 0), ("1 010", 1),
                ("-1", 0), ("1 -", 1), ("+1", 0), ("x", 0), ("1 2x", 1), ("1,2", 0), ("1\n", 0), ("1 2\n3", 1),
                ("\n", 0), ("1 \n 2", 1),
                ("1.0", 0), ("1_0", 0), ("1 2 3 1000", 3), ("\t1", 0), ("(1, 2)", 0), ("0" * 3000, 0),
                ("1 " * 17 + "17", 17)]:
            same(self, fields_of(self, BadText, read_row, value), {"number": number})

    def test_each_length(self):
        for length in range(100):
            if length <= 16:
                same(self, read_row(str(length)), (length,))
                same(self, read_row(f"3 {length}"), (3, length))
            else:
                same(self, fields_of(self, BadText, read_row, f"3 {length}"), {"number": 1})
            for text in {f"0{length}", f"00{length}", f"{length:03d}"} - {str(length)}:
                same(self, fields_of(self, BadText, read_row, text), {"number": 0})

    def test_no_pieces_or_more_than_16(self):
        for value in ["", " ", "      "]:
            same(self, fields_of(self, BadText, read_row, value), {"number": 0})
        same(self, read_row("2 " * 16), (2,) * 16)
        for many in (17, 18, 100, 1500):
            same(self, fields_of(self, BadText, read_row, "2 " * many), {"number": many})

    def test_a_wrong_piece_is_told_ahead_of_too_many(self):
        same(self, fields_of(self, BadText, read_row, "2 " * 20 + "17"), {"number": 20})

    def test_rows_need_not_fit(self):
        same(self, read_row("0 0 1"), (0, 0, 1))
