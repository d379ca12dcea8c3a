"""Points 67 and 68, with points 10, 60 and 66: checkers judged along a log."""

import random

from surelywrong.checkers import Certain, Checker, Counting, CountingSure, Hasty, Sure
from surelywrong.complaining import complaints_of
from surelywrong.errors import NotUsable
from surelywrong.judging import fault_of, no_sooner, shown_along
from tests import eventoracle
from tests.helper import Case, WORDS
from tests.test_checkers import CountingHasty, LOG, NOT_USABLE, Pairs

END, STOP, LET, USE = ('end',), ('stop',), ('let', 'x', 'text'), ('use', 'x', 'num')


class Wild(Checker):
    """Shows some right pairs, sometimes wrong ones, and takes some back; the same ones for the same log."""

    def __init__(self, seed, false):
        self.seed = seed
        self.false = false

    def shown(self, log):
        chance = random.Random(f'{self.seed} {log}')
        rows = eventoracle.rows_in(eventoracle.moments(log)[-1])
        right = [one for one in complaints_of(rows) if chance.random() < 0.97]
        if chance.random() < self.false:
            right.append((chance.randint(0, len(rows) + 2), chance.choice(WORDS)))
        return tuple(sorted(set(right)))


class Asked:
    """Any function of the kind of a checker, that keeps its calls in a list that may be common to several."""

    def __init__(self, checker, calls, name='x'):
        self.checker, self.calls, self.name = checker, calls, name

    def __call__(self, log):
        self.calls.append((self.name, log))
        return self.checker(log)


def beginnings(log):
    return [log[:k + 1] for k in range(len(log))]


def told_by_births(log, checker):
    """For each moment what a checker shows, each pair with the birth of its row; those of no row are left out."""
    told = []
    for begun, tokens in zip(beginnings(log), eventoracle.moments(log)):
        births = eventoracle.births_in(tokens)
        told.append(sorted((births[row], word) for row, word in checker(begun) if row < len(births)))
    return told


def fault(log, checker):
    """Point 68 by its words."""
    before = []
    for moment, (begun, tokens) in enumerate(zip(beginnings(log), eventoracle.moments(log))):
        rows, births = eventoracle.rows_in(tokens), eventoracle.births_in(tokens)
        shown = checker(begun)
        false = [pair for pair in shown if pair not in complaints_of(rows)]
        if false:
            return (moment, min(false), 'false')
        back = [(births.index(birth), word) for birth, word in before if (births.index(birth), word) not in shown]
        if back:
            return (moment, min(back), 'back')
        before = [(births[row], word) for row, word in shown]
    return None


class Examples(Case):

    def test_of_the_document(self):
        self.told((((3, 'unused'),), ((1, 'unused'), (3, 'unused'), (6, 'twice'))), shown_along, LOG, Sure())
        self.told(None, fault_of, LOG, Sure())
        self.told((1, (3, 'use'), 'back'), fault_of, LOG, Hasty())
        self.told(True, no_sooner, LOG, Sure(), Hasty())
        self.told(False, no_sooner, LOG, Hasty(), Sure())

    def test_by_name(self):
        self.told((), lambda: shown_along(checker=Checker(), log=LOG)[0])
        self.told((1, (3, 'use'), 'back'), fault_of, checker=Hasty(), log=LOG)
        self.told(False, no_sooner, other=Sure(), checker=Hasty(), log=LOG)


class ShownAlong(Case):

    def test_numbers_of_no_row_are_left_out(self):
        log = (('writing', (STOP,), (0, 1)), ('put', 0, END), ('put', 2, LET))
        checker = Pairs((0, 'stop'), (0, 'use'), (1, 'stop'), (2, 'end'), (3, 'end'), (10 ** 59, 'end'))
        self.told((((0, 'stop'), (0, 'use')), ((0, 'stop'), (1, 'stop'), (1, 'use')), ((0, 'stop'), (1, 'stop'), (1, 'use'), (2, 'end'))),
                  shown_along, log, checker)

    def test_along_many_logs(self):
        chance = random.Random(91)
        for k, log in enumerate(eventoracle.some_logs(chance, 50, 10, 20, seed=92)):
            for checker in (Checker(), Sure(), Hasty(), Certain('use', 'stop'), Wild(k, 0.3)):
                self.told(tuple(map(tuple, told_by_births(log, checker))), shown_along, log, checker)
                self.told(tuple(map(tuple, told_by_births(log, checker))), shown_along, log, checker.shown)

    def test_one_moment(self):
        self.told(((),), shown_along, (('writing', (), ()),), Hasty())
        self.told((((3, 'unused'),),), shown_along, LOG[:1], Sure())


class FaultOf(Case):

    def test_false(self):
        for pairs, pair in ((((0, 'use'),), (0, 'use')), (((0, 'falls'), (1, 'end'), (2, 'end')), (1, 'end')), (((6, 'use'),), (6, 'use')),
                            (((2, 'use'), (10 ** 59, 'use')), (10 ** 59, 'use')), (((0, 'after'), (0, 'falls')), (0, 'after')),
                            (((2, 'use'), (5, 'use'), (6, 'after'), (6, 'use')), (6, 'after'))):
            self.told((0, pair, 'false'), fault_of, LOG, Pairs(*pairs))

    def test_back(self):
        log = (('writing', (STOP, STOP, END), (1, 3)), ('put', 1, END), ('put', 2, END))
        shown = {1: ((0, 'stop'), (1, 'stop'), (2, 'end')), 2: ((0, 'stop'), (2, 'stop'), (3, 'end')), 3: ((0, 'stop'), (4, 'end'))}
        self.told((2, (3, 'stop'), 'back'), fault_of, log, lambda log: shown[len(log)])
        shown[3] = ((0, 'stop'), (3, 'stop'), (4, 'end'))
        self.told(None, fault_of, log, lambda log: shown[len(log)])
        # Shown at other rows, as the rows of the beginning have moved.
        shown[2] = shown[1][:2]
        self.told((1, (1, 'stop'), 'false'), fault_of, log, lambda log: shown[len(log)])
        # Of two at once the least one, by the rows of this moment.
        shown[2] = ((0, 'stop'),)
        self.told((1, (2, 'stop'), 'back'), fault_of, log, lambda log: shown[len(log)])

    def test_false_comes_ahead_of_back(self):
        shown = {1: ((2, 'use'),), 2: ((6, 'end'),)}
        self.told((1, (6, 'end'), 'false'), fault_of, LOG, lambda log: shown[len(log)])
        shown = {1: ((2, 'use'), (3, 'twice')), 2: ((4, 'twice'), (9, 'use'))}
        self.told((1, (9, 'use'), 'false'), fault_of, LOG, lambda log: shown[len(log)])
        shown[2] = shown[2][:1]
        self.told((1, (3, 'use'), 'back'), fault_of, LOG, lambda log: shown[len(log)])

    def test_the_moment_before_counts_alone(self):
        log = (('writing', (STOP,), (1,)), ('put', 1, END), ('put', 2, END), ('put', 3, END))
        shown = {1: (), 2: ((0, 'stop'),), 3: ((0, 'stop'),), 4: ()}
        self.told((3, (0, 'stop'), 'back'), fault_of, log, lambda log: shown[len(log)])

    def test_along_many_logs(self):
        chance = random.Random(93)
        seen = {}
        for k, log in enumerate(eventoracle.some_logs(chance, 150, 8, 25, seed=94)):
            for checker in (Checker(), Sure(), Hasty(), Certain('use'), Wild(k, 0.1), Wild(k, 0.9)):
                expected = fault(log, checker)
                self.told(expected, fault_of, log, checker)
                self.told(expected, fault_of, log, checker.shown)
                reason = expected and expected[2]
                seen[reason] = seen.get(reason, 0) + 1
        self.assertGreater(min(seen[reason] for reason in (None, 'false', 'back')), 50)


class NoSooner(Case):

    def test_each_moment_counts(self):
        log = (('writing', (STOP, STOP, END), (1, 3)), ('put', 1, END), ('put', 2, END))
        full = {1: ((0, 'stop'),), 2: ((0, 'stop'),), 3: ((0, 'stop'), (9, 'use'))}
        for k in (1, 2, 3):
            less = {**full, k: ()}
            self.told(False, no_sooner, log, lambda log: full[len(log)], lambda log: less[len(log)])
            self.told(True, no_sooner, log, lambda log: less[len(log)], lambda log: full[len(log)])
        # A number of no row is shown by nobody.
        less = {**full, 3: ((0, 'stop'),)}
        self.told(True, no_sooner, log, lambda log: full[len(log)], lambda log: less[len(log)])

    def test_along_many_logs(self):
        chance = random.Random(95)
        seen = {True: 0, False: 0}
        for k, log in enumerate(eventoracle.some_logs(chance, 80, 8, 15, seed=96)):
            each = (Checker(), Sure(), Hasty(), Certain('use', 'end'), Wild(k, 0.2), Wild(k + 1, 0))
            for one in each:
                for other in each:
                    both = zip(told_by_births(log, one), told_by_births(log, other))
                    expected = all(set(mine) <= set(theirs) for mine, theirs in both)
                    self.told(expected, no_sooner, log, one, other)
                    seen[expected] += 1
        self.assertGreater(min(seen.values()), 200)


class Calls(Case):

    def test_once_at_each_moment_in_order(self):
        chance = random.Random(97)
        for log in eventoracle.some_logs(chance, 30, 8, 15, seed=98):
            calls = []
            shown_along(log, Asked(Hasty(), calls))
            self.assertEqual(calls, [('x', begun) for begun in beginnings(log)])
            calls.clear()
            no_sooner(log, Asked(Hasty(), calls, 'one'), Asked(Checker(), calls, 'other'))
            self.assertEqual(calls, [(name, begun) for begun in beginnings(log) for name in ('one', 'other')])
            calls.clear()
            found = fault_of(log, Asked(Hasty(), calls))
            self.assertEqual(calls, [('x', begun) for begun in beginnings(log)[:found[0] + 1 if found else len(log)]])

    def test_counted(self):
        for checker in (Counting(), CountingSure()):
            self.assertIsNone(fault_of(LOG, checker))
            shown_along(LOG, checker)
            no_sooner(LOG, checker, checker)
            self.told(8, lambda: checker.asked)
        hasty = CountingHasty()
        fault_of((*LOG, ('put', 3, END), ('put', 4, END)), hasty)
        self.told(2, lambda: hasty.asked)

    def test_their_errors_come_through(self):
        def raising(log):
            raise KeyError(len(log))
        for call in (shown_along, fault_of):
            with self.assertRaises(KeyError):
                call(LOG, raising)
        with self.assertRaises(KeyError):
            no_sooner(LOG, Sure(), raising)


class Wrong(Case):

    def test_logs(self):
        calls = []
        asked = Asked(Hasty(), calls)
        for log in NOT_USABLE:
            self.refused(NotUsable, ('log', -1), shown_along, log, asked)
            self.refused(NotUsable, ('log', -1), fault_of, log, asked)
            self.refused(NotUsable, ('log', -1), no_sooner, log, asked, asked)
        self.refused(NotUsable, ('log', -1), fault_of, checker=None, log=LOG[1:])
        # No checker is asked about such a log, at none of its moments.
        self.assertEqual(calls, [])
