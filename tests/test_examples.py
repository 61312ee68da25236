"""The examples of the document, as Python sessions."""

from doctest import DocTestParser, DocTestRunner
from unittest import TestCase

from tests.helper import C

SESSIONS = {
    "section 1": """
>>> from ordercodes.codes import code_error, is_start, is_word, joined, lengths, parted, read
>>> code_error(2, C), lengths(C), code_error(2, ((0,), (0, 1))), is_word(2, (0, 2)), is_start((1, 1), (1, 1, 0))
(None, (1, 2, 3, 3), (1, 'start'), False, True)
>>> joined(C, (1, 0, 3)), read(2, C, (1, 0, 0, 1, 1, 1)), parted((1, 0), (1, 1, 0)), parted((0, 1, 1), (2,))
((1, 0, 0, 1, 1, 1), (1, 0, 3), (1, 1), (1,))
""",
    "section 2": """
>>> from ordercodes.rows import code_at, count, first_code, last_code, number_of, row_error, words_of
>>> row_error(2, (1, 2, 3, 3)), row_error(2, (2, 1, 2)), row_error(3, (2, 1, 2)), first_code(2, (3, 2, 3))
(None, 2, None, ((0, 0, 0), (0, 1), (1, 0, 0)))
>>> last_code(2, (3, 2, 3)), words_of(2, (3, 2, 3), 1), count(2, (3, 2, 3)), number_of(2, C), \
code_at(2, (3, 2, 3), 15) == last_code(2, (3, 2, 3))
(((0, 1, 1), (1, 0), (1, 1, 1)), ((0, 1), (1, 0)), 16, 0, True)
""",
    "section 3": """
>>> from ordercodes.totals import best_row, is_best, is_ledger, least_total, ledger, total
>>> least_total(2, (5, 1, 1, 3), 16), best_row(2, (5, 1, 1, 3), 16), least_total(2, (5, 1, 1, 3), 2), total((5, 1, \
1, 3), (1, 2, 3, 3))
(17, (1, 3, 3, 2), 20, 19)
>>> is_ledger(2, (5, 1, 1), ((6, 9), (2,))), ledger(2, (5, 1, 1))[0][1], is_ledger(2, (5, 1, 1), ((6, 10), (2,))), \
least_total(3, (5, 1, 1, 3), 16), least_total(2, (1, 1, 1), 1)
(True, 9, False, 12, None)
""",
    "section 4": """
>>> from ordercodes.bounds_of import always_best, mended, regret, shown, worst
>>> regret(2, (1, 2, 2), ((1, 3), (1, 1), (0, 4))), shown(2, (1, 2, 2), ((1, 3), (1, 1), (0, 4)), ((1, 1, 4), (2, \
2, 1)))
(3, 3)
>>> always_best(2, (1, 2, 2), ((4, 9), (1, 1), (0, 4))), mended(2, (1, 1, 1), 3), mended(2, (2, 1, 2), 4), \
mended(2, (1, 1, 1), 1)
(True, (1, 2, 2), (2, 2, 2), None)
""",
    "section 5": """
>>> from ordercodes.gaps import changed, free, is_put, pages, put_in, room
>>> free(2, ((0,), (1, 1))), room(2, ((0,), (1, 1)), 1, 3), room(2, C, 1, 16), changed(2, C, 1, 1, 3), pages(C, 2)
(((), ((1, 0),), ()), 2, 0, 1, (2,))
>>> is_put(2, C, 1, 1, 3, ((0, 0, 0), (0, 0, 1), (1, 0), (1, 1, 0), (1, 1, 1))), is_put(2, C, 1, 1, 3, ((0, 0), (0, \
1), (1, 0), (1, 1, 0), (1, 1, 1))), is_put(2, C, 1, 1, 3, ((0,), (1, 0, 0), (1, 0, 1), (1, 1, 0), (1, 1, 1)))
(True, True, True)
""",
    "section 6": """
>>> from ordercodes.indexes import Index
>>> index = Index(2, C, 3)
>>> index.take(1), index.put(1, (1, 0)), index.moved, index.recode((1, 1, 1, 1)), index.code, index.moved, \
index.undo(), index.moved, str(index)
(1, 2, (), 3, ((0, 0), (0, 1), (1, 0), (1, 1)), (0, 1, 2, 3), 2, (0, 1, 2, 3), '4 keys, version 2')
""",
    "section 7": """
>>> from ordercodes.texts import code_text, read_code, read_row, row_text
>>> code_text(C), read_code(2, " 0  10 110 111 ") == C, read_row("1 2 3 3"), row_text((1, 16))
('0 10 110 111', True, (1, 2, 3, 3), '1 16')
>>> from ordercodes.desks import Desk
>>> from ordercodes.indexes import Index
>>> desk = Desk(Index(2, C, 3))
>>> [desk.say(line) for line in ["word 2", "keys 100111", "take 1", "free 1", "room 1", "put 1 10", "put 1 10", "pages 2", \
"keys 11"]]
['110', '1 0 3', 'ok 1', '10', '2', 'ok 2', 'no Crowded', '2', 'no BadRow']
""",
    "section 8, words held": """
>>> from ordercodes.held import best_held, count_held, first_held, held_error, last_held, least_held
>>> held_error(2, (3, 2, 3), (None, (1, 0), None)), held_error(2, (3, 2, 3), (None, (0, 0), None)), held_error(2, \
(3, 2, 3), (None, (1,), None))
(None, 1, 'held')
>>> first_held(2, (3, 2, 3), (None, (1, 0), None)), last_held(2, (3, 2, 3), (None, (1, 0), None)), count_held(2, \
(3, 2, 3), (None, (1, 0), None))
(((0, 0, 0), (1, 0), (1, 1, 0)), ((0, 1, 1), (1, 0), (1, 1, 1)), 8)
>>> least_held(2, (5, 1, 1), (None, (1, 0), None), 3), best_held(2, (5, 1, 1), (None, (1, 0), None), 3), \
least_held(2, (5, 1, 1), (None, (0,), None), 3)
(9, (1, 2, 2), None)
""",
    "section 8, keys in a row": """
>>> from ordercodes.ranges import cover, is_cover, told_by
>>> told_by(C, (1, 1)), told_by(C, (0, 0)), cover(2, C, 1, 3), cover(2, C, 0, 2), is_cover(2, C, 1, 2, ((1, 0), (1, 1, 0)))
((2, 3), None, ((1,),), ((0,), (1, 0), (1, 1, 0)), True)
""",
}


class ExamplesTest(TestCase):
    def test_sessions_answer_as_told(self):
        for name, session in SESSIONS.items():
            told = []
            test = DocTestParser().get_doctest(session, {"C": C}, name, None, 0)
            outcome = DocTestRunner(verbose=False).run(test, out=told.append)
            self.assertEqual(outcome.failed, 0, "".join(told))
            self.assertGreater(outcome.attempted, 1)
