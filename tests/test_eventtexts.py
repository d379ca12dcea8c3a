"""Points 71 and 74, with points 10, 16 and 59: lines of events and logs."""

import random

from surelywrong.errors import NotUsable
from surelywrong.eventkinds import is_event, is_log
from surelywrong.eventtexts import event_line, log_lines
from surelywrong.writings import Writing
from tests import eventoracle
from tests.helper import Case, TEXT
from tests.test_checkers import LOG, NOT_POSSIBLE, NOT_USABLE
from tests.test_eventkinds import NO_EVENTS
from tests.test_rowtexts import LINES
from tests.test_texts import THINGS

END, STOP = ('end',), ('stop',)
GREAT = int('9' * 60)


class Events(Case):

    def test_of_each_row(self):
        for row, line in LINES.items():
            for gap in (0, 7, 10, 59, GREAT):
                self.told(f'put {gap} {line}', event_line, ('put', gap, row))
                self.told(f'put {gap} {line}', event_line, event=('put', gap, row))
        for gap in (0, 7, 10, GREAT):
            self.told(f'close {gap}', event_line, ('close', gap))

    def test_others(self):
        for thing in (*THINGS, *NO_EVENTS, LOG, LOG[0], Writing()):
            if not is_event(thing):
                self.refused(NotUsable, ('event', -1), event_line, thing)


class Logs(Case):

    def test_of_the_document(self):
        self.told(['writing 1 0 1', 'use x num', 'close 0', 'put 1 end'], log_lines,
                  (('writing', (('use', 'x', 'num'),), (0, 1)), ('close', 0), ('put', 1, END)))

    def test_edges(self):
        self.told(['writing 0 -'], log_lines, (('writing', (), ()),))
        self.told(['writing 0 0'], log_lines, log=(('writing', (), (0,)),))
        self.told(['writing 2 -', 'stop', 'end', 'close 5'], log_lines, (('writing', (STOP, END), ()), ('close', 5)))
        self.told(['writing 90 0 9 90', *['end'] * 90, *['put 3 open fun -'] * 50], log_lines,
                  (('writing', (END,) * 90, (0, 9, 90)), *[('put', 3, ('open', ('fun', '')))] * 50))
        # Possible or not, a log is a log.
        for log in NOT_POSSIBLE:
            self.told(len(log) + len(log[0][1]), len, log_lines(log))

    def test_many(self):
        chance = random.Random(107)
        for log in eventoracle.some_logs(chance, 40, 12, 45, seed=108):
            lines = log_lines(log)
            self.assertIs(type(lines), list)
            carets = ' '.join(map(str, log[0][2]))
            self.assertEqual(lines, [f'writing {len(log[0][1])} {carets}', *[line_of(row) for row in log[0][1]], *map(event_line, log[1:])])
            # Each list is a new one.
            lines.clear()
            self.assertTrue(log_lines(log))

    def test_others(self):
        for thing in (*NOT_USABLE, Writing(TEXT, (2,)), *THINGS):
            if not is_log(thing):
                self.refused(NotUsable, ('log', -1), log_lines, thing)


def line_of(row):
    """The line of a row, word by word."""
    words = [word for part in row for word in ((part,) if isinstance(part, str) else part)]
    return ' '.join(word or '-' for word in words)
