"""Points 73 and 74, with points 16, 61 to 65, 71 and 72: a desk."""

import random

from surelywrong.complaining import complaints_of
from surelywrong.desk import Desk
from surelywrong.errors import InvalidEvent, InvalidRow, InvalidText, NothingToUndo
from surelywrong.eventreadings import read_event, read_log
from surelywrong.eventtexts import event_line, log_lines
from surelywrong.rowtexts import complaint_word, gaps_words, row_line
from surelywrong.writings import Writing
from tests import eventoracle
from tests.helper import Case, TEXT, some_texts
from tests.test_checkers import LOG
from tests.test_rowreadings import changed
from tests.test_texts import THINGS
from tests.test_writings import PUTS

ASKED = ('rows', 'log', 'carets', 'sure', 'held', 'births', 'all', 'events', 'moments')
BEGUN = '\n'.join(log_lines(LOG[:1]))


def several(things, between=' '):
    return between.join(things) or '-'


def pairs_told(complaints):
    return several([complaint_word(one) for one in complaints])


def telling(desk):
    """All that a desk tells; asking changes nothing but its counts."""
    return [desk.say(row) for row in ASKED]


def told_of(writing):
    """What a desk tells of a writing."""
    return [several(map(row_line, writing.rows), ' / '), several(map(event_line, writing.log()[1:]), ' / '), gaps_words(writing.carets),
            pairs_told(writing.sure), pairs_told(writing.held), several(map(str, writing.births)), pairs_told(complaints_of(writing.rows)),
            str(len(writing)), str(len(writing.moments))]


class Examples(Case):

    def test_of_the_document(self):
        desk = Desk()
        for row, answer in (('writing 1 0 1\nuse x num', 'ok'), ('held', '0:use'), ('close 0', '0:use'), ('put 1 end', '1:end'), ('carets', '2'),
                            ('log', 'close 0 / put 1 end')):
            self.told(answer, desk.say, row)
        self.told('use x num / end', desk.say, row='rows')
        self.told((7, 7), desk.counts)


class Answers(Case):

    def test_where_there_is_nothing_to_tell(self):
        desk = Desk()
        for row, answer in zip(ASKED, ('-', '-', '-', '-', '-', '-', '-', '0', '1')):
            self.told(answer, desk.say, row)
        self.told('caret', desk.say, 'bars close 0')
        self.told('ok', desk.say, 'writing 0 0')
        self.told('-', desk.say, 'bars close 0')
        self.told('-', desk.say, 'put 0 open if')
        self.told('open if', desk.say, 'rows')
        self.told('put 0 open if', desk.say, 'undo')
        self.told('-', desk.say, 'rows')

    def test_of_the_texts_of_the_document(self):
        desk = Desk()
        self.told('ok', desk.say, BEGUN)
        for row, answer in (
                ('rows', 'open fun num / let x num / use x text / let x num / end / use x num'), ('carets', '2'), ('sure', '3:unused'),
                ('held', '0:falls 2:use 3:twice 5:use'), ('all', '0:falls 2:use 3:twice 3:unused 5:use'), ('births', '0 1 2 3 4 5'), ('events', '0'),
                ('moments', '1'), ('put 2 let x text', '1:unused 2:twice'), ('births', '0 1 6 2 3 4 5'), ('log', 'put 2 let x text'),
                ('bars put 3 end', '-'), ('bars put 2 end', 'caret'), ('events', '1'), ('moments', '2'), ('close 3', '0:falls 4:twice 6:use'),
                ('held', '-'), ('carets', '-'), ('log', 'put 2 let x text / close 3'), ('undo', 'close 3'), ('undo', 'put 2 let x text'),
                ('all', '0:falls 2:use 3:twice 3:unused 5:use'), ('shut', 'ok'), ('shut', 'ok'), ('bars put 2 end', 'closed'), ('events', '0')):
            self.told(answer, desk.say, row)

    def test_of_every_row(self):
        chance = random.Random(113)
        for log in eventoracle.some_logs(chance, 40, 10, 25, seed=114):
            desk, writing = Desk(), Writing(*log[0][1:])
            self.told('ok', desk.say, '\n'.join(log_lines(log[:1])))
            for event in log[1:]:
                self.told(told_of(writing), telling, desk)
                self.told('-', desk.say, 'bars ' + event_line(event))
                self.told(pairs_told(writing.go(event)), desk.say, event_line(event))
            self.told(told_of(writing), telling, desk)
            self.assertEqual(read_log(log_lines(writing.log())), log)

    def test_full(self):
        desk = Desk()
        desk.say('writing 0 0')
        for event in PUTS[:40]:
            self.told(f'{event[1]}:end', desk.say, event_line(event))
        self.told('full', desk.say, 'bars put 40 end')
        self.refused(InvalidEvent, (PUTS[40], 'full'), desk.say, 'put 40 end')
        self.told('41', desk.say, 'moments')

    def test_a_new_writing(self):
        desk = Desk()
        desk.say('writing 0 0')
        desk.say('put 0 end')
        desk.say('shut')
        self.told('ok', desk.say, 'writing 0 0')
        self.told(told_of(Writing((), (0,))), telling, desk)
        self.told('0:stop', desk.say, 'put 0 stop')


class Refused(Case):

    def test_events(self):
        desk = Desk()
        desk.say(BEGUN)
        before = telling(desk)
        self.refused(InvalidEvent, (('put', 3, ('end',)), 'caret'), desk.say, 'put 3 end')
        self.refused(InvalidEvent, (('close', 10 ** 59), 'caret'), desk.say, f'close {10 ** 59}')
        self.refused(NothingToUndo, (0,), desk.say, 'undo')
        desk.say('shut')
        self.refused(InvalidEvent, (('close', 2), 'closed'), desk.say, row='close 2')
        self.refused(InvalidEvent, (('undo',), 'closed'), desk.say, 'undo')
        self.told(before, telling, desk)

    def test_other_values(self):
        desk = Desk()
        desk.say('writing 2 0 2\nuse x num\nend')
        desk.say('put 0 let x num')
        before, many = telling(desk), desk.counts()[0]
        rows = (
            *THINGS, '', ' ', '\n', 'ok', 'Rows', 'rows ', ' rows', 'rows\n', '\nrows', 'rows rows', 'row', 'log 1', 'undo ', 'undo undo', 'undo\n',
            'shut ', 'shut\n', 'bars', 'bars ', 'bars rows', 'bars bars', 'bars undo', 'bars  close 1', 'bars close', 'bars close 1 ', 'bars close 1\n',
            'bars\nclose 1', 'bars put 1', 'bars put 1 foo', 'bars close 01', 'bars writing 0 -', 'bars bars close 1', 'close', 'close 1 ', ' close 1',
            'close  1', 'close 1\n', 'close 1\nclose 3', 'close 01', 'close ' + '9' * 61, 'close x', 'put 1', 'put 1 ', 'put 1 foo', 'put 1 end\n',
            'put 1 end end', 'put 1 let x', 'writing', 'writing ', 'writing 0', 'writing 0 ', 'writing 1 -', 'writing 1 -\n', 'writing 0 -\n',
            'writing 1 -\nfoo', 'writing 1 -\nend\n', '\nwriting 0 -', 'writing 0 1', 'writing 0 0\nclose 0', 'writing 0 0\nput 0 end',
            'writing 1 -\nend\nclose 0', 'writing 1 -\nend\nend', 'writing\n0 -', 'writing 2 0 2 1\nend\nend', 'writing 00 -', 'writing 0 - 0', 'all all',
            'event', 'held.', 'let x num', 'end', 'use x num', '-', 'x' * 9000, 'say', 'counts', '__init__', 'writing ' + '9' * 60 + ' 0\nend')
        for row in rows:
            self.refused(InvalidRow, (row,), desk.say, row)
        self.told((many + len(rows),) * 2, desk.counts)
        self.told(before, telling, desk)

    def test_the_very_value_is_told(self):
        row = ['undo']
        with self.assertRaises(InvalidRow) as caught:
            Desk().say(row)
        self.assertIs(caught.exception.row, row)

    def test_changed_rows(self):
        chance = random.Random(115)
        seen = {}
        for row in (*ASKED, 'undo', 'shut', 'put 0 open fun -', 'close 1', 'bars put 0 let x num', 'writing 1 0 1\nuse x num', 'writing 0 -'):
            for line in changed(row, ' -\n:x01'):
                expected = self.expected(line)
                seen[expected] = seen.get(expected, 0) + 1
                desk = Desk()
                desk.say('writing 2 0 1\nend\nend')
                desk.say('put 0 end')
                if expected == 'InvalidRow':
                    before = telling(desk)
                    self.refused(InvalidRow, (line,), desk.say, line)
                    if chance.random() < 0.1:
                        self.told(before, telling, desk)
                else:
                    try:
                        self.assertIs(type(desk.say(line)), str)
                    except InvalidEvent:
                        pass
        self.assertGreater(min(seen.get(word, 0) for word in ('InvalidRow', 'writing', 'event', 'bars', 'word')), 3)

    def expected(self, row):
        """What kind of row any string is."""
        if row in (*ASKED, 'undo', 'shut'):
            return 'word'
        for read, line, kind in ((read_event, row, 'event'), (read_event, row[5:] if row[:5] == 'bars ' else '', 'bars'), (read_log, row.split('\n'), 'writing')):
            try:
                found = read(line)
            except InvalidText:
                continue
            if kind != 'writing' or len(found) == 1:
                return kind
        return 'InvalidRow'


class Counts(Case):

    def test_behind_each(self):
        desk = Desk()
        self.told((0, 0), desk.counts)
        for k, row in enumerate(('rows', 'undo', None, 'put 0 end', 'shut', 'bars', 'writing 0 0', 'put 0 end', 'undo', 'log\n', 7)):
            try:
                desk.say(row)
            except (InvalidRow, InvalidEvent, NothingToUndo):
                pass
            self.told((k + 1, k + 1), desk.counts)
            self.told((k + 1, k + 1), desk.counts)


class Two(Case):

    def test_by_turns(self):
        chance = random.Random(116)
        for text in some_texts(15, 8, seed=117):
            desks = [Desk(), Desk()]
            writings = [Writing(), Writing()]
            says = [0, 0]
            for _ in range(40):
                k = chance.randrange(2)
                desk, writing = desks[k], writings[k]
                which = chance.random()
                says[k] += 1
                if which < 0.1:
                    self.told('ok', desk.say, '\n'.join(log_lines((('writing', text, (len(text) // 2,)),))))
                    writings[k] = Writing(text, (len(text) // 2,))
                elif which < 0.2 and len(writing):
                    self.told(event_line(writing.undo()), desk.say, 'undo')
                else:
                    event = eventoracle.some_event(chance, eventoracle.moments(writing.log())[-1]) or ('close', 9)
                    reason = writing.barred(event)
                    self.told(reason or '-', desk.say, 'bars ' + event_line(event))
                    says[k] += 1
                    if reason:
                        self.refused(InvalidEvent, (event, reason), desk.say, event_line(event))
                    else:
                        self.told(pairs_told(writing(event)), desk.say, event_line(event))
                for one in (0, 1):
                    self.told((says[one],) * 2, desks[one].counts)
                    self.told(told_of(writings[one]), telling, desks[one])
                    says[one] += len(ASKED)

    def test_read_and_written(self):
        for event in (('close', 3), ('put', 0, ('give', ''))):
            self.told(event, read_event, event_line(event))
        self.told(LOG, read_log, log_lines(LOG))
        self.assertEqual(TEXT, read_log(BEGUN.split('\n'))[0][1])
