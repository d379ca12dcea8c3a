"""Points 59 and 60, with points 2 and 3: events and logs."""

import random

from surelywrong.eventkinds import is_event, is_log
from surelywrong.moments import by_births, moments_of
from tests import eventoracle
from tests.helper import BAD_CARETS, Case, ODD, TEXT, changed, is_gap_set, some_texts
from tests.test_rowtexts import LINES
from tests.test_texts import THINGS

END, STOP, LET = ('end',), ('stop',), ('let', 'x', 'a')
BEGUN = ('writing', TEXT, (2, 4))
LOG = (BEGUN, ('put', 2, END), ('close', 9), ('put', 10 ** 59, STOP))
EVENTS = (('put', 0, END), ('close', 0), ('put', 10 ** 59, LET), ('close', 10 ** 59), ('close', 7), *[('put', 7, row) for row in LINES])
NO_EVENTS = (
    (), ('put',), ('close',), ('put', 0), ('close', 0, END), ('close', 0, 0), ('put', 0, END, 0), ('put', 0, 'end'), ('put', 0, ['end']),
    ('put', 0, ('end', '')), ('put', 0, TEXT), ('put', 0, ()), ('put', 0, None), ('put', True, END), ('put', -1, END), ('put', '0', END),
    ('put', None, END), ('close', True), ('close', False), ('close', -1), ('close', '0'), ('close', None), ('close', (0,)), ['close', 0],
    ['put', 0, END], (('close',), 0), ('Close', 0), ('closed', 0), ('shut', 0), (0, 'close'), ('undo',), 'close 0', ('open', 'if'), END,
    (None, 0), (True, 0), (['put'], 0, END), ('put', END, 0), (('put', 0, END),), BEGUN)


class Events(Case):

    def test_events(self):
        for event in EVENTS:
            self.told(True, is_event, event)
            self.told(True, is_event, thing=event)

    def test_others(self):
        for thing in (*NO_EVENTS, *THINGS, *LINES, TEXT, LOG):
            self.told(False, is_event, thing)

    def test_changed(self):
        chance = random.Random(76)
        seen = {True: 0, False: 0}
        for event in EVENTS * 40:
            thing = changed(chance, event)
            self.told(eventoracle.is_event(thing), is_event, thing)
            seen[is_event(thing)] += 1
        self.assertGreater(min(seen.values()), 30)


class Logs(Case):

    def test_logs(self):
        for log in (LOG, LOG[:1], (BEGUN, *EVENTS), (('writing', (), ()),), (('writing', (), (0,)),), (('writing', TEXT, (0, 6)), *EVENTS),
                    (('writing', (END,) * 90, tuple(range(91))), *EVENTS * 20)):
            self.told(True, is_log, log)
            self.told(True, is_log, thing=log)

    def test_others(self):
        for thing in (*THINGS, *EVENTS, BEGUN, list(LOG), [BEGUN], (list(BEGUN),), LOG[1:], (LOG[1], BEGUN), (BEGUN, BEGUN), (LOG,), TEXT):
            self.told(False, is_log, thing)
        for event in (*NO_EVENTS, *ODD):
            self.told(False, is_log, (BEGUN, event))
            self.told(False, is_log, (BEGUN, EVENTS[0], event, EVENTS[0]))

    def test_wrong_beginnings(self):
        for first in (('writing', TEXT), ('writing', TEXT, (2,), ()), ('writings', TEXT, (2,)), ('writing', list(TEXT), (2,)), ('writing', (2,), TEXT),
                      (['writing'], TEXT, (2,)), ('writing', (*TEXT, 'end'), (2,)), ('writing', TEXT, [2]), ('writing', TEXT, (7,)),
                      ('writing', (), (1,)), ('writing', None, ()), ('writing', TEXT, None), (None, TEXT, (2,)), ('write', TEXT, (2,))):
            self.told(False, is_log, (first,))
            self.told(False, is_log, (first, *EVENTS))
        for carets in (*ODD, *BAD_CARETS):
            self.told(is_gap_set(carets, 6), is_log, (('writing', TEXT, carets),))

    def test_changed(self):
        chance = random.Random(77)
        seen = {True: 0, False: 0}
        for _ in range(700):
            thing = changed(chance, LOG)
            self.told(eventoracle.is_log(thing), is_log, thing)
            seen[is_log(thing)] += 1
        self.assertGreater(min(seen.values()), 30)


class Moments(Case):

    def test_carets_at_behind_and_ahead_of_a_row(self):
        log = (('writing', (STOP, STOP, STOP), (0, 1, 2, 3)), ('put', 1, LET))
        self.assertEqual(moments_of(log)[1], ((STOP, LET, STOP, STOP), (0, 2, 3, 4), (0, 3, 1, 2)))
        self.assertEqual(moments_of((*log, ('close', 2)))[2][1], (0, 3, 4))
        self.assertEqual(moments_of((*log, ('put', 4, END)))[2], ((STOP, LET, STOP, STOP, END), (0, 2, 3, 5), (0, 3, 1, 2, 4)))
        self.assertEqual(moments_of((*log, ('put', 2, END), ('put', 0, END)))[3], ((END, STOP, LET, END, STOP, STOP), (1, 4, 5, 6), (5, 0, 3, 4, 1, 2)))
        self.assertEqual(moments_of((('writing', (), (0,)), ('put', 0, LET), ('put', 1, END), ('close', 2)))[-1], ((LET, END), (), (0, 1)))

    def test_along_many_logs(self):
        chance = random.Random(78)
        for log in eventoracle.some_logs(chance, 120, 12, 40, seed=79):
            expected = [(eventoracle.rows_in(one), eventoracle.carets_in(one), eventoracle.births_in(one)) for one in eventoracle.moments(log)]
            self.told(expected, moments_of, log)

    def test_told_by_births(self):
        moment = ((STOP, LET, STOP), (), (2, 0, 1))
        self.told(((0, 'use'), (1, 'end'), (2, 'after'), (2, 'use')), by_births, moment,
                  ((0, 'after'), (0, 'use'), (1, 'use'), (2, 'end'), (3, 'use'), (10 ** 59, 'end')))
        self.told((), by_births, ((), (), ()), ((0, 'use'),))

    def test_texts_stay(self):
        for text in some_texts(10, 9, seed=80):
            self.told([(text, (0,), tuple(range(len(text))))], moments_of, (('writing', text, (0,)),))
