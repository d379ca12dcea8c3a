"""Point 70 and the last row of point 74, with points 59 to 65: writings made anew from logs."""

import random

from surelywrong.errors import InvalidEvent, NotUsable
from surelywrong.replaying import replayed
from surelywrong.writings import Writing
from tests import eventoracle
from tests.helper import Case, TEXT
from tests.test_checkers import LOG, NOT_USABLE
from tests.test_writings import DoneAll, PUTS, seen

END, STOP = ('end',), ('stop',)


class Replayed(Case):

    def anew(self, writing):
        """The writing replayed from its log tells the same, but is not shut and has no tally."""
        other = replayed(writing.log())
        self.assertIs(type(other), Writing)
        before = seen(writing)
        before[6] = False
        self.told(before, seen, other)
        self.told((0, 0), other.tally)
        self.assertEqual(other == writing, not writing.is_shut)
        return other

    def test_of_many_writings(self):
        chance = random.Random(105)
        for log in eventoracle.some_logs(chance, 60, 10, 40, seed=106):
            writings = [Writing(*log[0][1:]) for _ in range(4)]
            for event in log[1:]:
                writings[0](event)
            writings[1].do_all(*log[1:])
            writings[2].finish(*log[1:])
            writings[3].do_all(*log[1:])
            for _ in range(chance.randint(0, len(writings[3]))):
                writings[3].undo()
            for writing in writings:
                self.anew(writing)
            self.told(log, lambda: replayed(log=log).log())

    def test_it_goes_on(self):
        writing = Writing(TEXT, (2, 3))
        writing.finish(*DoneAll.EVENTS)
        other = self.anew(writing)
        other.shut()
        self.assertEqual(other, writing)
        other = replayed(writing.log())
        self.told(DoneAll.EVENTS[-1], other.undo)
        other.put(3, END)
        self.told((2, 2), other.tally)
        self.told(('put', 3, STOP), lambda: writing.log()[-1])
        self.told(4, len, replayed(writing.log()))

    def test_without_events(self):
        for rows, carets in ((TEXT, (2,)), ((), ()), ((END,) * 70, (70,))):
            self.anew(Writing(rows, carets))


class Refused(Case):

    def test_forty_events_and_more(self):
        log = (('writing', (), (0,)), *PUTS[:40])
        self.told(40, len, replayed(log))
        self.told('full', replayed(log).barred, PUTS[40])
        self.refused(InvalidEvent, (PUTS[40], 'full'), replayed, (*log, PUTS[40]))
        self.refused(InvalidEvent, (('close', 7), 'full'), replayed, (*log, ('close', 7), PUTS[41]))
        self.refused(InvalidEvent, (('close', 7), 'caret'), replayed, (*log[:40], ('close', 7), PUTS[39], PUTS[40]))

    def test_events_that_are_not_possible(self):
        for k in range(5):
            for bad in (('put', 1, END), ('close', 1), ('close', 99), ('put', 10 ** 59, END)):
                log = (('writing', TEXT, (2, 3)), *DoneAll.EVENTS[:k], bad, *DoneAll.EVENTS[k:], bad)
                self.refused(InvalidEvent, (bad, 'caret'), replayed, log)
                self.refused(InvalidEvent, (bad, 'caret'), replayed, log=log)

    def test_no_logs(self):
        for log in NOT_USABLE:
            if eventoracle.is_log(log):
                bad = [event for k, event in enumerate(log) if k and not eventoracle.is_usable(log[:k + 1])][0]
                self.refused(InvalidEvent, (bad, 'caret'), replayed, log)
            else:
                self.refused(NotUsable, ('log', -1), replayed, log)
        self.refused(NotUsable, ('log', -1), replayed, Writing(TEXT, (2,)))
        self.refused(NotUsable, ('log', -1), replayed, list(LOG))
