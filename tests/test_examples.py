"""The examples of the document's sections 1 and 2, as Python sessions."""

from doctest import DocTestParser, DocTestRunner
from unittest import TestCase

from tests.helper import C

SESSIONS = {
    "section 1": """
>>> from ordercodes.codes import code_error, is_start, is_word, joined, lengths, parted, read
>>> code_error(2, C), lengths(C), code_error(2, ((0,), (0, 1))), is_word(2, (0, 2)), is_start((1, 1), (1, 1, 0))
(None, (1, 2, 3, 3), (1, 'start'), False, True)
>>> joined(C, (1, 0, 3)), read(2, C, (1, 0, 0, 1, 1, 1)), parted((1, 0), (1, 1, 0)), parted((0, 1, 1), (2,))
((1, 0, 0, 1, 1, 1), (1, 0, 3), (1, 1), (1,))
""",
    "section 2": """
>>> from ordercodes.rows import code_at, count, first_code, last_code, number_of, row_error, words_of
>>> row_error(2, (1, 2, 3, 3)), row_error(2, (2, 1, 2)), row_error(3, (2, 1, 2)), first_code(2, (3, 2, 3))
(None, 2, None, ((0, 0, 0), (0, 1), (1, 0, 0)))
>>> last_code(2, (3, 2, 3)), words_of(2, (3, 2, 3), 1), count(2, (3, 2, 3)), number_of(2, C), \
code_at(2, (3, 2, 3), 15) == last_code(2, (3, 2, 3))
(((0, 1, 1), (1, 0), (1, 1, 1)), ((0, 1), (1, 0)), 16, 0, True)
""",
}


class ExamplesTest(TestCase):
    def test_sessions_answer_as_told(self):
        for name, session in SESSIONS.items():
            told = []
            test = DocTestParser().get_doctest(session, {"C": C}, name, None, 0)
            outcome = DocTestRunner(verbose=False).run(test, out=told.append)
            self.assertEqual(outcome.failed, 0, "".join(told))
            self.assertGreater(outcome.attempted, 1)
