"""Points 27 to 29, with points 6, 7 and 10: texts that grow by ways."""

import random

from surelywrong.complaining import complaints_of
from surelywrong.errors import NotUsable
from surelywrong.growing import gone_by, grown, moved, new_by, old_row
from surelywrong.rowchanges import put_in
from surelywrong.stretching import cause_of, stretch_of
from tests import oracle
from tests.helper import Case, ODD, TEXT, WORDS, some_carets, some_texts, some_way

WAY = ((2, (('let', 'x', 'text'),)),)
FUN, LOOP, IF, END, STOP = ('open', ('fun', 'a')), ('open', 'loop'), ('open', 'if'), ('end',), ('stop',)
LET, USE, GIVE = ('let', 'x', 'a'), ('use', 'x', 'a'), ('give', 'a')
CALLS = (grown, moved, old_row, gone_by, new_by)


def some_pairs(many, longest, seed):
    """Texts with ways at several of their gaps."""
    chance = random.Random(seed)
    return [(text, some_way(chance, some_carets(chance, text, 5))) for text in some_texts(many, longest, seed)]


PAIRS = some_pairs(300, 12, seed=9) + some_pairs(8, 60, seed=10)


class Examples(Case):

    def test_of_the_document(self):
        self.assertEqual([grown(TEXT, WAY)[1:4], moved(TEXT, WAY, 3), old_row(TEXT, WAY, 2), old_row(TEXT, WAY, 3)],
                         [(('let', 'x', 'num'), ('let', 'x', 'text'), ('use', 'x', 'text')), 4, None, 2])
        self.told(((2, 'use'),), gone_by, TEXT, WAY)
        self.told(((1, 'unused'), (2, 'twice')), new_by, TEXT, WAY)
        way = ((2, (('let', 'x', 'text'), ('open', 'if'))), (4, (('end',), ('give', 'num'))))
        self.told(((0, 'falls'), (2, 'use'), (3, 'twice')), gone_by, TEXT, way)


class Rows(Case):

    def test_at_several_gaps(self):
        way = ((0, (IF, STOP)), (1, (END,)), (3, (LET, USE, GIVE)))
        text = (LOOP, USE, END)
        self.told((IF, STOP, LOOP, END, USE, END, LET, USE, GIVE), grown, text, way)
        self.assertEqual([moved(text, way, row) for row in range(3)], [2, 4, 5])
        self.assertEqual([old_row(text, way, row) for row in range(9)], [None, None, 0, None, 1, 2, None, None, None])

    def test_of_the_empty_text(self):
        self.told((), grown, (), ())
        self.told((STOP, END), grown, (), ((0, (STOP, END)),))
        self.told(None, old_row, (), ((0, (STOP, END)),), 1)
        self.refused(NotUsable, ('row', 0), moved, (), ((0, (STOP, END)),), 0)
        self.refused(NotUsable, ('row', 2), old_row, (), ((0, (STOP, END)),), 2)

    def test_by_the_empty_way(self):
        for text in some_texts(20, 20):
            self.told(text, grown, text, ())
            self.told((), gone_by, text, ())
            self.told((), new_by, text, ())
            for row in range(len(text)):
                self.told(row, moved, text, (), row)
                self.told(row, old_row, text, (), row)

    def test_by_name(self):
        self.told((END, STOP), grown, text=(STOP,), way=((0, (END,)),))
        self.told(1, moved, row=0, text=(STOP,), way=((0, (END,)),))
        self.told(0, old_row, row=1, text=(STOP,), way=((0, (END,)),))
        self.told(((0, 'open'),), gone_by, text=(IF,), way=((1, (END,)),))
        self.told(((1, 'open'),), new_by, text=(IF,), way=((1, (LOOP,)),))

    def test_more_than_sixty_rows(self):
        way = ((0, (IF,) * 100), (3, (END,) * 99), (6, (STOP,) * 200))
        rows = grown(TEXT, way)
        self.assertEqual(len(rows), 405)
        self.told(rows, lambda: put_in(put_in(put_in(TEXT, 6, (STOP,) * 200), 3, (END,) * 99), 0, (IF,) * 100))
        self.told(404, moved, TEXT, ((0, (IF,) * 399),), 5)
        further = ((0, (END,)), (205, (END,)), (405, (LET,)))
        self.assertEqual(len(grown(rows, further)), 408)
        self.told(204, old_row, rows, further, 205)
        self.told(None, old_row, rows, further, 206)
        self.told(205, old_row, rows, further, 207)
        gone, new = oracle.changes(rows, further, WORDS)
        self.told(gone, gone_by, rows, further)
        self.told(new, new_by, rows, further)


class Changes(Case):

    def just(self, text, way, gone, new):
        self.told(gone, gone_by, text, way)
        self.told(new, new_by, text, way)

    def test_rows_that_let_and_use(self):
        self.just((USE,), ((0, (LET,)),), ((0, 'use'),), ())
        self.just((USE,), ((0, (('let', 'x', 'b'),)),), (), ())
        self.just((USE,), ((1, (LET,)),), (), ((1, 'unused'),))
        self.just((LET,), ((1, (('use', 'x', 'b'),)),), ((0, 'unused'),), ((1, 'use'),))
        self.just((LET, USE), ((1, (LET,)),), (), ((0, 'unused'), (1, 'twice')))

    def test_rows_that_open_and_close(self):
        self.just((STOP, END), ((0, (LOOP,)),), ((0, 'stop'), (1, 'end')), ())
        self.just((GIVE,), ((0, (FUN,)), (1, (END,))), ((0, 'give'),), ())
        self.just((IF, LET, LET), ((2, (END,)),), ((0, 'open'), (2, 'twice')), ())
        self.just((LET, LET), ((1, (IF,)), (2, (END,))), ((1, 'twice'),), ())
        self.just((FUN, STOP, END), ((2, (GIVE,)),), ((0, 'falls'),), ((2, 'after'),))

    def test_rows_that_close_what_was_opened_before(self):
        self.just((LOOP, STOP, END), ((1, (END,)),), (), ((2, 'stop'), (3, 'end')))
        self.just((FUN, GIVE, END), ((1, (END,)),), (), ((0, 'falls'), (2, 'give'), (3, 'end')))

    def test_rows_that_close_grounds(self):
        self.just((LET, USE), ((1, (END,)),), (), ((0, 'unused'), (1, 'end'), (2, 'use')))
        self.just((LET, LET), ((1, (END,)),), ((1, 'twice'),), ((1, 'end'),))
        self.just((END,), ((0, (IF, END, END)),), (), ((2, 'end'),))

    def test_rows_that_stop_and_give(self):
        self.just((LET, USE), ((0, (STOP,)),), (), ((0, 'stop'), (1, 'after'), (2, 'after')))
        self.just((LET, USE), ((1, (GIVE,)),), (), ((1, 'give'), (2, 'after')))

    def test_the_same_complaint_with_another_cause_is_not_gone(self):
        text = (('let', 'x', 'b'), USE)
        way = ((1, (('let', 'x', 'c'),)),)
        self.just(text, way, (), ((0, 'unused'), (1, 'twice')))
        self.assertEqual([cause_of(text, (1, 'use')), cause_of(grown(text, way), (2, 'use'))], [0, 1])


class Compared(Case):

    def test_with_the_definitions(self):
        for text, way in PAIRS:
            rows = oracle.tagged(text, way)
            self.told(tuple(row for _, row in rows), grown, text, way)
            for k, (old, _) in enumerate(rows):
                self.told(old, old_row, text, way, k)
                if old is not None:
                    self.told(k, moved, text, way, old)
            gone, new = oracle.changes(text, way, WORDS)
            self.told(gone, gone_by, text, way)
            self.told(new, new_by, text, way)

    def test_what_follows(self):
        for text, way in PAIRS:
            rows = grown(text, way)
            gone = gone_by(text, way)
            still = [(moved(text, way, row), word) for row, word in complaints_of(text) if (row, word) not in gone]
            self.assertEqual(sorted([*still, *new_by(text, way)]), list(complaints_of(rows)))
            for complaint in complaints_of(text):
                first, last = stretch_of(text, complaint)
                if not any(first <= gap <= last for gap, _ in way):
                    self.assertNotIn(complaint, gone)
                    cause = cause_of(text, complaint)
                    there = (moved(text, way, complaint[0]), complaint[1])
                    self.assertEqual(cause_of(rows, there), cause if cause < 0 else moved(text, way, cause))


class Wrong(Case):

    def test_what_is_not_usable(self):
        for call in (grown, gone_by, new_by):
            self.unusable(call, text=TEXT, way=WAY)
        self.unusable(moved, text=TEXT, way=(), row=2)
        self.unusable(old_row, text=TEXT, way=(), row=2)

    def test_rows_of_the_grown_text(self):
        for thing in (*ODD, 7, 8):
            if type(thing) is not int or not 0 <= thing < 7:
                self.refused(NotUsable, ('row', thing), old_row, TEXT, WAY, thing)
        self.told(5, old_row, TEXT, WAY, 6)
        self.refused(NotUsable, ('row', 6), moved, TEXT, WAY, 6)
