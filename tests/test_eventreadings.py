"""Point 72, with points 10, 16, 17, 59, 71 and 74: lines of events and logs read."""

import random
import re

from surelywrong.errors import InvalidText, NotUsable
from surelywrong.eventreadings import read_event, read_log
from surelywrong.eventtexts import event_line, log_lines
from tests import eventoracle
from tests.helper import Case, ODD, TEXT
from tests.test_checkers import LOG
from tests.test_eventkinds import EVENTS
from tests.test_rowreadings import FORMS, NUMBER, changed, fault
from tests.test_texts import THINGS

END, STOP = ('end',), ('stop',)
EVENT_FORMS = (('close', NUMBER), *[('put', NUMBER, *form) for form in FORMS])
NINES = '9' * 60


def beginning_fault(words):
    """The first word of the first line of a log that cannot stand, or the number of words if one is missing, or None."""
    if words[0] != 'writing':
        return 0
    if len(words) == 1 or not re.fullmatch(NUMBER, words[1]):
        return 1
    if len(words) == 2:
        return 2
    if words[2] == '-':
        return 3 if len(words) > 3 else None
    last = -1
    for field, word in enumerate(words[2:], 2):
        if not re.fullmatch(NUMBER, word) or not last < int(word) <= int(words[1]):
            return field
        last = int(word)
    return None


def log_fault(lines):
    """Where the first fault of a log is, None if there is none."""
    if not lines:
        return (0, 0)
    words = [line.split(' ') for line in lines]
    field = beginning_fault(words[0])
    if field is not None:
        return (0, field)
    many = int(words[0][1])
    for k in range(1, len(lines)):
        field = fault(words[k], FORMS if k <= many else EVENT_FORMS)
        if field is not None:
            return (k, field)
    return (len(lines), 0) if len(lines) <= many else None


class Events(Case):

    def test_each_written_event(self):
        for event in EVENTS:
            self.told(event, read_event, event_line(event))
            self.told(event, read_event, line=event_line(event))

    def test_edges(self):
        for line, field in (
                ('', 0), (' ', 0), ('\n', 0), ('put', 1), ('close', 1), ('put ', 1), ('close ', 1), ('put 0', 2), ('put 0 ', 2), ('close 0 ', 2),
                ('close 0 0', 2), ('close 0\n', 1), ('close\n0', 0), ('\nclose 0', 0), ('close 0 end', 2), ('close  0', 1), (' close 0', 0),
                ('close 00', 1), ('close 01', 1), ('close -1', 1), ('close -', 1), ('close x', 1), ('close +1', 1), ('close 1_0', 1),
                ('close 1.0', 1), ('close ' + NINES + '9', 1), ('put ' + NINES + '9 end', 1), ('put end', 1), ('put end 0', 1), ('put 0 0', 2),
                ('put 0 end end', 3), ('put 0 end\n', 2), ('put 0\nend', 1), ('put 0 open', 3), ('put 0 open fun', 4), ('put 0 open fun A', 4),
                ('put 0 open if -', 4), ('put 0 let x', 4), ('put 0 let - num', 3), ('put 0 give', 3), ('put 0 give -\n', 3), ('put 0 give - -', 4),
                ('put 0 put 0 end', 2), ('puts 0 end', 0), ('Put 0 end', 0), ('undo', 0), ('end', 0), ('writing 0 -', 0), ('put 0 foo bar', 2),
                ('close \u0661', 1), ('close \u00b2', 1)):
            self.refused(InvalidText, (0, field), read_event, line)
        self.told(('close', int(NINES)), read_event, 'close ' + NINES)
        self.told(('put', int(NINES), ('give', '')), read_event, 'put ' + NINES + ' give -')

    def test_each_change_of_a_line(self):
        for event in (('close', 0), ('close', 41), ('put', 0, END), ('put', 10, ('let', 'x', 'num')), ('put', 2, ('open', ('fun', ''))),
                      ('put', 3, ('open', 'loop')), ('put', 9, ('give', 'a'))):
            for line in changed(event_line(event), ' -\n:x019'):
                field = fault(line.split(' '), EVENT_FORMS)
                if field is None:
                    self.told(line, event_line, read_event(line))
                else:
                    self.refused(InvalidText, (0, field), read_event, line)

    def test_no_strings(self):
        for thing in (*THINGS, ['close 0'], ('close', 0), ('close 0',)):
            if type(thing) is not str:
                self.refused(NotUsable, ('line', -1), read_event, thing)


class Logs(Case):

    def test_each_written_log(self):
        chance = random.Random(109)
        logs = [LOG, LOG[:1], (('writing', (), ()),), (('writing', (), (0,)), *EVENTS), (('writing', TEXT, ()), ('close', 9)),
                (('writing', (END,) * 90, tuple(range(91))), *[('close', 3)] * 90), *eventoracle.some_logs(chance, 60, 12, 45, seed=110)]
        for log in logs:
            self.told(log, read_log, log_lines(log))
            self.told(log, read_log, lines=log_lines(log))

    def wrong(self, line, field, *lines):
        self.refused(InvalidText, (line, field), read_log, list(lines))

    def test_first_lines(self):
        for first, field in (
                ('', 0), ('writing', 1), ('writing ', 1), ('writing 0', 2), ('writing 0 ', 2), ('writing 0  -', 2), ('writing  0 -', 1),
                (' writing 0 -', 0), ('writing 0 - ', 3), ('writing 0 - 0', 3), ('writing 0 0 -', 3), ('writing 0 1', 2), ('writing 0 0 0', 3),
                ('writing 0 0 ', 3), ('writing 00 -', 1), ('writing 01 -', 1), ('writing -1 -', 1), ('writing - 0', 1), ('writing 0 00', 2),
                ('writing 9 0 2 1', 4), ('writing 9 0 2 2', 4), ('writing 9 0 2 10', 4), ('writing 9 0 2 10 x', 4), ('writing 9 0 2 x 10', 4),
                ('writing 9 x', 2), ('writing 9 9 10', 3), ('writings 0 -', 0), ('write 0 -', 0), ('put 0 end', 0), ('writing x -', 1),
                ('writing ' + NINES + '9 -', 1), ('writing ' + NINES + ' ' + NINES + '9', 2), ('writing 9 - -', 3), ('writing 9 --', 2), ('stop', 0)):
            self.wrong(0, field, first)
            self.wrong(0, field, first, 'foo', '')

    def test_a_line_of_a_row_is_missing(self):
        self.wrong(0, 0)
        self.wrong(1, 0, 'writing 1 -')
        self.wrong(3, 0, 'writing 3 0 3', 'stop', 'end')
        self.wrong(2, 0, 'writing ' + NINES + ' 7 ' + NINES, 'stop')
        # One that is there is wrong, so it is told; an event is no row.
        self.wrong(1, 0, 'writing 3 0 3', 'foo')
        self.wrong(2, 1, 'writing 3 0 3', 'stop', 'end ')
        self.wrong(2, 0, 'writing 3 0 3', 'stop', 'close 0', 'close 1')
        self.wrong(2, 0, 'writing 2 -', 'stop', '')

    def test_rows_and_events(self):
        self.wrong(1, 0, 'writing 0 -', '')
        self.wrong(1, 0, 'writing 0 -', 'stop')
        self.wrong(2, 0, 'writing 1 -', 'stop', 'stop')
        self.wrong(2, 4, 'writing 1 -', 'stop', 'put 0 open fun', 'close')
        self.wrong(3, 1, 'writing 1 -', 'stop', 'close 0', 'close 01')
        self.wrong(1, 2, 'writing 1 0', 'open fun', 'close x')
        self.wrong(2, 0, 'writing 0 0', 'close 0', 'undo')
        self.told((('writing', (STOP,), ()), ('close', 7)), read_log, ['writing 1 -', 'stop', 'close 7'])

    def test_lines_left_out_doubled_and_changed(self):
        chance = random.Random(111)
        faults = {}
        for log in eventoracle.some_logs(chance, 60, 8, 12, seed=112):
            lines = log_lines(log)
            many = len(log[0][1])
            tries = [lines[:k] + lines[k + 1:] for k in range(len(lines))]
            tries += [lines[:k + 1] + lines[k:] for k in range(len(lines))]
            tries += [[lines[0].replace(f' {many} ', f' {many + more} ', 1), *lines[1:]] for more in (-1, 1, 2)]
            for k in range(len(lines)):
                each = [line for line in changed(lines[k], ' -:x019') if '\n' not in line]
                tries += [[*lines[:k], line, *lines[k + 1:]] for line in chance.sample(each, 20)]
            for told in tries:
                found = log_fault(told)
                if found:
                    self.refused(InvalidText, found, read_log, told)
                    faults[found] = True
                else:
                    self.told(told, log_lines, read_log(told))
        self.assertGreater(len(faults), 40)


class Others(Case):

    def test_no_lists_of_strings_without_newlines(self):
        for thing in (*THINGS, tuple(log_lines(LOG)), 'writing 0 -', ['writing 0 -', None], [None], [['writing 0 -']], [('writing', (), ())],
                      ['writing 0 -\n'], ['writing 1 -', 'stop\n'], ['writing 1 -\nstop'], ['\n'], ['foo', '\n'], ['writing 0 -', 'close 0\nclose 1'],
                      [b'writing 0 -'], {'writing 0 -': 0}):
            if type(thing) is not list or any(type(line) is not str or '\n' in line for line in thing):
                self.refused(NotUsable, ('lines', -1), read_log, thing)
        self.refused(InvalidText, (0, 0), read_log, [])
        for thing in ODD:
            if type(thing) is not str or '\n' in thing:
                self.refused(NotUsable, ('lines', -1), read_log, ['foo', thing])
