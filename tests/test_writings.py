"""Points 61 to 65, with points 2, 10, 18, 34, 59 and 60: writings."""

import operator
import random

from surelywrong.errors import InvalidEvent, NothingToUndo, NotUsable
from surelywrong.eventkinds import is_event
from surelywrong.kinds import is_row
from surelywrong.sureness import held_ones, sure_ones
from surelywrong.texts import Text
from surelywrong.writings import Writing
from tests import eventoracle
from tests.helper import BAD_CARETS, Case, TEXT, is_gap_set, some_carets, some_row, some_texts
from tests.test_eventkinds import EVENTS, NO_EVENTS
from tests.test_texts import THINGS

END, STOP, LET, USE = ('end',), ('stop',), ('let', 'x', 'text'), ('use', 'x', 'num')
PUTS = [('put', k, END) for k in range(60)]
OTHERS = (*THINGS, Writing(), Writing(TEXT, (2,)), Text(TEXT), TEXT, 'x' * 5000, 'writing 0 -\n' * 900, {1}, 2.5)


def full():
    """A writing that is full."""
    writing = Writing((), (0,))
    writing.do_all(*PUTS[:40])
    return writing


def seen(writing):
    """All that a writing tells, but for its tally."""
    return [writing.rows, writing.carets, writing.sure, writing.held, writing.births, writing.moments, writing.is_shut, writing.log(),
            len(writing)]


class Examples(Case):

    def test_of_the_document(self):
        writing = Writing(TEXT, (2,))
        self.told(((3, 'unused'),), lambda: writing.sure)
        self.told(((1, 'unused'), (2, 'twice')), writing.put, 2, LET)
        self.told((3,), lambda: writing.carets)
        self.told((0, 1, 6, 2, 3, 4, 5), lambda: writing.births)
        self.told(((0, 'falls'), (4, 'twice'), (6, 'use')), writing.close_caret, 3)
        self.told((), lambda: writing.held)
        self.told('caret', writing.barred, ('put', 3, END))
        self.told(('close', 3), writing.undo)


class Making(Case):

    def test_beginnings(self):
        for rows, carets in ((TEXT, (2,)), ((), ()), ((), (0,)), (TEXT, tuple(range(7))), ((STOP,) * 90, (90,))):
            for writing in (Writing(rows, carets), Writing(carets=carets, rows=rows)):
                self.told([rows, carets, sure_ones(rows, carets), held_ones(rows, carets), tuple(range(len(rows))), ((rows, carets),), False,
                           (('writing', rows, carets),), 0], seen, writing)
                self.told((0, 0), writing.tally)
        self.assertEqual([Writing().rows, Writing().carets, Writing(TEXT).carets, Writing(TEXT).rows], [(), (), (), TEXT])

    def test_most(self):
        self.told(40, lambda: Writing.MOST)
        self.told(40, lambda: Writing(TEXT).MOST)

    def test_no_rows_and_no_carets(self):
        for thing in OTHERS:
            if type(thing) is not tuple:
                self.refused(NotUsable, ('rows', -1), Writing, thing, None)
            if not is_row(thing):
                self.refused(NotUsable, ('rows', 1), Writing, (STOP, thing, None), None)
        for thing in (*OTHERS, *BAD_CARETS):
            if not is_gap_set(thing, 6):
                self.refused(NotUsable, ('carets', -1), Writing, TEXT, thing)
                self.refused(NotUsable, ('carets', -1), Writing, rows=TEXT, carets=thing)
            if not is_gap_set(thing, 0):
                self.refused(NotUsable, ('carets', -1), Writing, carets=thing)

    def test_properties_are_only_read(self):
        for name in ('rows', 'carets', 'sure', 'held', 'births', 'moments', 'is_shut'):
            with self.assertRaises(AttributeError):
                setattr(Writing(TEXT, (2,)), name, ())

    def test_methods_stand_in_the_class(self):
        self.assertLessEqual({'put', 'close_caret', 'go', 'barred', 'tried', 'undo', 'do_all', 'tally', 'log', 'shut', 'finish', '__call__',
                              '__enter__', '__exit__', '__contains__', '__len__', '__eq__', 'MOST'}, set(vars(Writing)))


class Applied(Case):

    def test_four_ways(self):
        for event in (('put', 2, LET), ('put', 5, STOP), ('close', 2), ('close', 5)):
            writings = [Writing(TEXT, (2, 5)) for _ in range(4)]
            word, gap, *row = event
            told = [writings[0].go(event), writings[1](event), writings[2].go(event=event),
                    writings[3].put(gap=gap, row=row[0]) if word == 'put' else writings[3].close_caret(gap=gap)]
            self.assertEqual(told, [told[0]] * 4)
            for writing in writings:
                self.told((writings[0].log(), writings[0].rows, (1, 1)), lambda: (writing.log(), writing.rows, writing.tally()))

    def test_what_is_sure_since(self):
        writing = Writing((USE,), (0, 1))
        self.told((), lambda: writing.sure)
        self.told(((0, 'stop'),), writing.put, 0, STOP)
        # Told by the rows of this moment; what was sure before is left out.
        self.told(((1, 'after'), (1, 'use')), writing.close_caret, 1)
        self.told(((2, 'after'), (2, 'stop')), writing.put, 2, STOP)
        self.told((), writing.close_caret, 3)
        self.assertEqual(writing.sure, ((0, 'stop'), (1, 'after'), (1, 'use'), (2, 'after'), (2, 'stop')))

    def test_what_was_sure_at_another_row_is_left_out(self):
        writing = Writing((STOP,), (0,))
        # The stop of the beginning was held; the one that comes is sure, at the row where the other one stood.
        self.told(((0, 'stop'),), writing.put, 0, STOP)
        writing = Writing((END, STOP), (1, 2))
        self.told(((0, 'end'),), lambda: writing.sure)
        self.told(((1, 'end'),), writing.put, 1, END)
        writing = Writing((STOP,), (1,))
        self.told(((1, 'after'), (1, 'stop')), writing.put, 1, STOP)
        self.told((), writing.close_caret, 2)

    def test_refused(self):
        for writing, event, reason in ((Writing(TEXT, (2,)), ('put', 3, END), 'caret'), (Writing(TEXT, (2,)), ('close', 3), 'caret'),
                                       (Writing(TEXT), ('close', 0), 'caret'), (Writing(TEXT, (2,)), ('put', 10 ** 59, END), 'caret'),
                                       (full(), ('close', 40), 'full'), (full(), ('close', 41), 'full'), (full(), ('put', 40, 'end'), 'shape')):
            before = seen(writing)
            calls = writing.tally()[0]
            self.refused(InvalidEvent, (event, reason), writing.go, event)
            self.refused(InvalidEvent, (event, reason), writing, event)
            if event[0] == 'put':
                self.refused(InvalidEvent, (event, reason), writing.put, *event[1:])
            else:
                self.refused(InvalidEvent, (event, reason), writing.close_caret, *event[1:])
            self.told((calls + 3,) * 2, writing.tally)
            self.told(before, seen, writing)
            writing.shut()
            self.refused(InvalidEvent, (event, 'shape' if reason == 'shape' else 'closed'), writing.go, event)

    def test_shapes(self):
        writings = (Writing(TEXT, (0, 2)), full(), Writing(TEXT, (0, 2)))
        writings[2].shut()
        for writing in writings:
            before = seen(writing)
            for thing in (*NO_EVENTS, *OTHERS):
                if not is_event(thing):
                    self.refused(InvalidEvent, (thing, 'shape'), writing.go, thing)
                    self.refused(InvalidEvent, (thing, 'shape'), writing, thing)
                    self.told('shape', writing.barred, thing)
                    self.refused(InvalidEvent, (thing, 'shape'), writing.tried, thing)
                    self.refused(InvalidEvent, (thing, 'shape'), writing.do_all, thing, ('close', 0))
                if not is_row(thing):
                    self.refused(InvalidEvent, (('put', 0, thing), 'shape'), writing.put, 0, thing)
                if type(thing) is not int or thing < 0:
                    self.refused(InvalidEvent, (('put', thing, END), 'shape'), writing.put, thing, END)
                    self.refused(InvalidEvent, (('close', thing), 'shape'), writing.close_caret, thing)
            self.told(before, seen, writing)

    def test_the_very_value_is_told(self):
        thing = ['put', 0, END]
        with self.assertRaises(InvalidEvent) as caught:
            Writing((), (0,)).go(thing)
        self.assertIs(caught.exception.event, thing)


class Full(Case):

    def test_forty_and_one(self):
        writing = Writing((), (0,))
        for k in range(40):
            self.told(None, writing.barred, PUTS[k])
            writing.go(PUTS[k])
        self.told((40, 41), lambda: (len(writing), len(writing.moments)))
        self.told('full', writing.barred, PUTS[40])
        self.refused(InvalidEvent, (PUTS[40], 'full'), writing.go, PUTS[40])
        self.refused(InvalidEvent, (('close', 3), 'full'), writing.close_caret, 3)
        self.told((END,) * 40, lambda: writing.rows)
        # With one event taken back there is room for one.
        self.told(PUTS[39], writing.undo)
        self.told(None, writing.barred, ('close', 39))
        writing.close_caret(39)
        self.told('full', writing.barred, ('close', 39))

    def test_those_ahead_count(self):
        writing = Writing((), (0,))
        self.told(((END,) * 40, (40,), tuple((k, 'end') for k in range(40))), writing.tried, *PUTS[:40])
        self.refused(InvalidEvent, (PUTS[40], 'full'), writing.tried, *PUTS[:42])
        self.refused(InvalidEvent, (PUTS[40], 'full'), writing.do_all, *PUTS[:41])
        self.told(0, len, writing)
        self.refused(InvalidEvent, (PUTS[40], 'full'), writing.do_all, *PUTS[:41], keep=True)
        self.told(40, len, writing)
        self.told(0, writing.do_all)
        self.told(((END,) * 40, (40,), writing.sure), writing.tried)

    def test_classes_with_room_for_fewer(self):
        class Short(Writing):
            MOST = 2
        writing = Short((), (0,))
        self.told(2, writing.do_all, *PUTS[:2])
        self.told('full', writing.barred, PUTS[2])


class Tried(Case):

    def test_each_beginning_of_a_log(self):
        chance = random.Random(81)
        for log in eventoracle.some_logs(chance, 30, 10, 20, seed=82):
            writing = Writing(*log[0][1:])
            before = seen(writing)
            for k, tokens in enumerate(eventoracle.moments(log)):
                rows, carets = eventoracle.rows_in(tokens), eventoracle.carets_in(tokens)
                self.told((rows, carets, sure_ones(rows, carets)), writing.tried, *log[1:k + 1])
            self.told(before, seen, writing)
            self.told((0, 0), writing.tally)

    def test_refused(self):
        writing = Writing(TEXT, (2,))
        self.refused(InvalidEvent, (('put', 2, END), 'caret'), writing.tried, ('put', 2, END), ('put', 2, END), None)
        self.refused(InvalidEvent, (None, 'shape'), writing.tried, ('close', 2), None, ('close', 2))
        self.refused(InvalidEvent, (('close', 2), 'caret'), writing.tried, ('close', 2), ('close', 2))
        writing.shut()
        self.told((TEXT, (2,), ((3, 'unused'),)), writing.tried)
        self.refused(InvalidEvent, (('close', 2), 'closed'), writing.tried, ('close', 2), None)
        self.refused(InvalidEvent, (None, 'shape'), writing.tried, None, ('close', 2))


class Undone(Case):

    def test_back_to_the_beginning_and_anew(self):
        chance = random.Random(83)
        for log in eventoracle.some_logs(chance, 30, 10, 25, seed=84):
            writing = Writing(*log[0][1:])
            told = [seen(writing)]
            news = []
            for event in log[1:]:
                news.append(writing.go(event))
                told.append(seen(writing))
            for k in range(len(log) - 1, 0, -1):
                self.told(log[k], writing.undo)
                self.told(told[k - 1], seen, writing)
            self.refused(NothingToUndo, (0,), writing.undo)
            for k, event in enumerate(log[1:]):
                self.told(news[k], writing, event)
                self.told(told[k + 1], seen, writing)
            self.told((3 * (len(log) - 1) + 1,) * 2, writing.tally)

    def test_other_events_behind(self):
        writing = Writing(TEXT, (2,))
        writing.put(2, LET)
        writing.put(3, STOP)
        writing.undo()
        writing.put(3, END)
        # The birth of the row that was taken back is free again.
        self.told((0, 1, 6, 7, 2, 3, 4, 5), lambda: writing.births)
        self.told((('writing', TEXT, (2,)), ('put', 2, LET), ('put', 3, END)), writing.log)

    def test_refused(self):
        writing = Writing(TEXT, (2,))
        self.refused(NothingToUndo, (0,), writing.undo)
        writing.shut()
        self.refused(InvalidEvent, (('undo',), 'closed'), writing.undo)
        writing = Writing(TEXT, (2,))
        writing.close_caret(2)
        writing.shut()
        self.refused(InvalidEvent, (('undo',), 'closed'), writing.undo)
        self.told(1, len, writing)


class DoneAll(Case):

    EVENTS = (('put', 2, LET), ('put', 4, END), ('close', 5), ('put', 3, STOP))
    # Each of another reason, behind all events ahead of it.
    BAD = (('put', 1, END), ('close', 1), ('put', 2, 'end'), None, 'close 2')

    def test_all(self):
        for keep in ({}, {'keep': False}, {'keep': True}):
            writing, other = Writing(TEXT, (2, 3)), Writing(TEXT, (2, 3))
            self.told(4, writing.do_all, *self.EVENTS, **keep)
            for event in self.EVENTS:
                other.go(event)
            self.told(seen(other), seen, writing)
            self.told((1, 1), writing.tally)
            self.told(0, writing.do_all, **keep)
            self.told((2, 2), writing.tally)

    def test_one_refused_at_each_place(self):
        for bad in self.BAD:
            for k in range(len(self.EVENTS) + 1):
                events = (*self.EVENTS[:k], bad, *self.EVENTS[k:], None)
                reason = 'caret' if is_event(bad) else 'shape'
                for keep in ({}, {'keep': False}):
                    writing = Writing(TEXT, (2, 3))
                    self.refused(InvalidEvent, (bad, reason), writing.do_all, *events, **keep)
                    self.told(seen(Writing(TEXT, (2, 3))), seen, writing)
                    self.told((1, 1), writing.tally)
                writing, other = Writing(TEXT, (2, 3)), Writing(TEXT, (2, 3))
                other.do_all(*self.EVENTS[:k])
                self.refused(InvalidEvent, (bad, reason), writing.do_all, *events, keep=True)
                self.told(seen(other), seen, writing)
                self.told((1, 1), writing.tally)

    def test_behind_earlier_events(self):
        writing = Writing(TEXT, (2, 3))
        writing.put(2, LET)
        before = seen(writing)
        self.refused(InvalidEvent, (None, 'shape'), writing.do_all, ('close', 3), None)
        self.told(before, seen, writing)

    def test_keep(self):
        writing = Writing(TEXT, (2,))
        shut = Writing(TEXT, (2,))
        shut.shut()
        for thing in OTHERS:
            if type(thing) is not bool:
                for one in (writing, shut):
                    self.refused(NotUsable, ('keep', -1), one.do_all, None, keep=thing)
                    self.refused(NotUsable, ('keep', -1), one.do_all, keep=thing)
        many = 2 * len([thing for thing in OTHERS if type(thing) is not bool])
        self.told(((many, many), (many + 1, many + 1)), lambda: (writing.tally(), shut.tally()))
        # By position it is an event.
        self.refused(InvalidEvent, (True, 'shape'), writing.do_all, ('close', 2), True)


class Shut(Case):

    def test_what_is_refused_and_what_goes_on(self):
        writing = Writing(TEXT, (2,))
        writing.put(2, LET)
        before = seen(writing)
        self.assertIsNone(writing.shut())
        before[6] = True
        self.told(before, seen, writing)
        for event in EVENTS:
            self.refused(InvalidEvent, (event, 'closed'), writing.go, event)
            self.refused(InvalidEvent, (event, 'closed'), writing.do_all, event, None, keep=True)
            self.refused(InvalidEvent, (event, 'closed'), writing.finish, event, None)
            self.told('closed', writing.barred, event)
        self.refused(InvalidEvent, (('undo',), 'closed'), writing.undo)
        self.told(before, seen, writing)
        self.assertIsNone(writing.shut())
        self.told(0, writing.do_all)
        self.told(writing.log(), writing.finish)
        self.told(before, seen, writing)
        self.told((2 + 3 * len(EVENTS) + 4,) * 2, writing.tally)
        self.told(True, operator.contains, writing, (1, 'unused'))


class With(Case):

    def test_the_writing_itself(self):
        writing = Writing(TEXT, (2,))
        with writing as same:
            self.assertIs(same, writing)
            self.told(False, lambda: same.is_shut)
            same.put(2, LET)
        self.told(True, lambda: writing.is_shut)
        # The end of the block is no call of shut.
        self.told((1, 1), writing.tally)

    def test_behind_an_error(self):
        for error in (KeyError, InvalidEvent):
            writing = Writing(TEXT, (2,))
            with self.assertRaises(error):
                with writing as same:
                    same.put(2, LET)
                    if error is KeyError:
                        raise KeyError('x')
                    same.put(2, LET)
            self.told((True, 1), lambda: (writing.is_shut, len(writing)))

    def test_again(self):
        writing = Writing(TEXT, (2,))
        with writing:
            pass
        with writing as same:
            self.told(True, lambda: same.is_shut)
        self.told((True, (0, 0)), lambda: (writing.is_shut, writing.tally()))


class Finished(Case):

    def test_all(self):
        writing = Writing(TEXT, (2, 3))
        self.told((('writing', TEXT, (2, 3)), *DoneAll.EVENTS), writing.finish, *DoneAll.EVENTS)
        self.told((True, (1, 1)), lambda: (writing.is_shut, writing.tally()))
        writing = Writing(TEXT, (2, 3))
        self.told((('writing', TEXT, (2, 3)),), writing.finish)
        self.told(True, lambda: writing.is_shut)

    def test_one_refused_at_each_place(self):
        for bad in DoneAll.BAD:
            for k in range(5):
                writing, other = Writing(TEXT, (2, 3)), Writing(TEXT, (2, 3))
                other.do_all(*DoneAll.EVENTS[:k])
                other.shut()
                reason = 'caret' if is_event(bad) else 'shape'
                self.refused(InvalidEvent, (bad, reason), writing.finish, *DoneAll.EVENTS[:k], bad, *DoneAll.EVENTS[k:])
                self.told(seen(other), seen, writing)
                self.told((1, 1), writing.tally)


class Tally(Case):

    def test_behind_each_call(self):
        writing = Writing(TEXT, (2, 5))
        calls = 0
        for counts, call in (
                (1, lambda: writing.put(2, LET)), (1, lambda: writing.put(2, LET)), (1, lambda: writing.close_caret(3)), (1, lambda: writing.go(None)),
                (1, lambda: writing(('put', 6, STOP))), (1, writing.undo), (1, writing.undo), (1, writing.undo), (1, writing.undo),
                (1, lambda: writing.do_all(*DoneAll.EVENTS[:1])), (1, lambda: writing.do_all(('close', 3), None)), (1, lambda: writing.do_all(keep=1)),
                (0, lambda: writing.barred(('close', 3))), (0, lambda: writing.tried(('close', 3))), (0, lambda: writing.tried(None)),
                (0, writing.log), (0, writing.tally), (0, lambda: seen(writing)), (0, lambda: (0, 'use') in writing), (0, lambda: writing == writing),
                (1, writing.shut), (1, writing.shut), (1, writing.undo), (1, lambda: writing.go(('close', 3))), (1, writing.finish),
                (1, lambda: writing.finish(None))):
            try:
                call()
            except (InvalidEvent, NothingToUndo, NotUsable):
                pass
            calls += counts
            self.told((calls, calls), writing.tally)


class Contents(Case):

    def test_any_value(self):
        writing = Writing((STOP, STOP), ())
        for pair in ((0, 'stop'), (1, 'after'), (1, 'stop')):
            self.told(True, operator.contains, writing, pair)
        for thing in (*OTHERS, writing, (False, 'stop'), (True, 'stop'), (2, 'stop'), [0, 'stop'], (0, 'stop', 0), (0, ['stop']), writing.sure):
            self.told(False, operator.contains, writing, thing)
        # Complaints that are held are not in it.
        self.told([True, False], lambda: [one in Writing(TEXT, (2,)) for one in ((3, 'unused'), (2, 'use'))])


class Equality(Case):

    def test_by_other_ways(self):
        one, other, third = [Writing(TEXT, (2, 3)) for _ in range(3)]
        one.do_all(*DoneAll.EVENTS)
        for event in DoneAll.EVENTS:
            # Another way to the same log: each event is taken back once.
            other.go(event)
            other.undo()
            other(event)
        third.finish(*DoneAll.EVENTS)
        self.told([True, True, False, False], lambda: [one == other, other == one, one == third, third == other])
        self.told([False, True], lambda: [one != other, third != one])
        one.shut()
        self.told([False, True], lambda: [one == other, one == third])
        other.shut()
        self.told(True, operator.eq, one, other)

    def test_the_same_text_of_another_log(self):
        one, other = Writing((), (0,)), Writing((END,), (1,))
        one.put(0, END)
        self.assertEqual([one.rows, one.carets, one.births], [other.rows, other.carets, other.births])
        self.told(False, operator.eq, one, other)
        self.told(False, operator.eq, Writing(TEXT, (2,)), Writing(TEXT, (3,)))
        self.told(False, operator.eq, Writing(TEXT, (2,)), Writing(TEXT[:5], (2,)))

    def test_any_value(self):
        for one in (Writing(TEXT, (5,)), full()):
            for thing in (*OTHERS, one.log(), one.rows, str(one.log())):
                self.told(False, operator.eq, one, thing)
                self.told(False, operator.eq, thing, one)
                self.told(True, operator.ne, one, thing)


class Led(Case):
    """Writings led by many events and calls, beside a slow second reading."""

    def expected(self, tokens, log, moments, shut):
        rows, carets = eventoracle.rows_in(tokens), eventoracle.carets_in(tokens)
        return [rows, carets, sure_ones(rows, carets), held_ones(rows, carets), eventoracle.births_in(tokens),
                tuple((eventoracle.rows_in(one), eventoracle.carets_in(one)) for one in moments), shut, tuple(log), len(log) - 1]

    def news(self, before, after):
        """What is sure since, told by the rows of the moment behind."""
        known = self.by_births(before)
        births = eventoracle.births_in(after)
        return tuple((row, word) for row, word in sure_ones(eventoracle.rows_in(after), eventoracle.carets_in(after))
                     if (births[row], word) not in known)

    def by_births(self, tokens):
        births = eventoracle.births_in(tokens)
        return [(births[row], word) for row, word in sure_ones(eventoracle.rows_in(tokens), eventoracle.carets_in(tokens))]

    def some_event(self, chance, tokens):
        wrong = chance.random()
        if wrong < 0.06:
            return chance.choice(NO_EVENTS)
        if wrong < 0.15:
            return chance.choice((('close', chance.randint(0, 12)), ('put', chance.randint(0, 12), some_row(chance))))
        return eventoracle.some_event(chance, tokens) or ('close', 0)

    def test_events_and_undo(self):
        chance = random.Random(85)
        reasons = {}
        for text in some_texts(25, 10, seed=86):
            carets = some_carets(chance, text, 5)
            writing, log, moments, shut = Writing(text, carets), [('writing', text, carets)], [eventoracle.begun(text, carets)], False
            for _ in range(70):
                if chance.random() < 0.1 and not shut:
                    if len(log) > 1:
                        self.told(log.pop(), writing.undo)
                        moments.pop()
                    else:
                        self.refused(NothingToUndo, (0,), writing.undo)
                elif chance.random() < 0.005:
                    shut = True
                    writing.shut()
                else:
                    event = self.some_event(chance, moments[-1])
                    reason = eventoracle.reason(event, moments[-1], len(log) - 1, shut)
                    self.told(reason, writing.barred, event)
                    reasons[reason] = True
                    if reason:
                        self.refused(InvalidEvent, (event, reason), writing.go, event)
                    else:
                        after = eventoracle.applied(moments[-1], event)
                        self.told(self.news(moments[-1], after), writing, event)
                        log.append(event)
                        moments.append(after)
                self.told(self.expected(moments[-1], log, moments, shut), seen, writing)
        self.assertEqual(sorted(reasons, key=str), [None, 'caret', 'closed', 'full', 'shape'])

    def test_what_is_sure_stays_sure(self):
        chance = random.Random(87)
        for log in eventoracle.some_logs(chance, 40, 12, 40, seed=88):
            moments = eventoracle.moments(log)
            for before, after in zip(moments, moments[1:]):
                self.assertLessEqual(set(self.by_births(before)), set(self.by_births(after)))
