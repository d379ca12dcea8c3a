"""Point 69, with points 10, 66 and 68: checkers that are watched for faults."""

import random

from surelywrong import guarded
from surelywrong.checkers import Certain, Checker, Counting, CountingSure, Hasty, Sure
from surelywrong.errors import NotUsable, TookBack
from surelywrong.guarded import Guarded
from surelywrong.judging import fault_of
from tests import eventoracle
from tests.helper import Case, TEXT
from tests.test_checkers import LOG, NOT_USABLE, Pairs
from tests.test_judging import Asked, Wild, beginnings, fault

END, STOP = ('end',), ('stop',)
LONG = (('writing', (STOP, STOP, END), (1, 3)), ('put', 1, END), ('put', 2, END))
OTHER = (('writing', (STOP, STOP, STOP, END), (1, 3)), ('put', 1, END))


def by_length(shown):
    """A function that shows what is told for logs of so many events."""
    return lambda log: shown[len(log) - 1]


def outcome(call, log):
    """What a call returns or raises."""
    try:
        return ('shown', call(log))
    except (TookBack, NotUsable) as error:
        return (type(error).__name__, *vars(error).values())


class Watched:
    """Point 69 by its words."""

    def __init__(self, checker):
        self.checker, self.log, self.told = checker, None, []

    def __call__(self, log):
        if not eventoracle.is_usable(log):
            return ('NotUsable', 'log', -1)
        tokens = eventoracle.moments(log)[-1]
        births = eventoracle.births_in(tokens)
        shown = self.checker(log)
        kept = self.told if self.log is not None and log[:len(self.log)] == self.log else []
        # As the fault of a log of two moments, of which the first one is the last call.
        false = [pair for pair in shown if pair[0] >= len(births) or pair not in Hasty()(log)]
        back = [(births.index(birth), word) for birth, word in kept if (births.index(birth), word) not in shown]
        if false or back:
            self.log = None
            return ('TookBack', len(log) - 1, min(false or back))
        self.log, self.told = log, [(births[row], word) for row, word in shown]
        return ('shown', shown)


class Faults(Case):

    def test_false(self):
        for pair in ((0, 'use'), (3, 'end'), (10 ** 59, 'end')):
            for call in (Guarded(Pairs((2, 'end'), pair)), Guarded(checker=Pairs((2, 'end'), pair)).shown):
                self.refused(TookBack, (0, pair), call, LONG[:1])
                self.refused(TookBack, (0, pair), call, log=LONG[:1])

    def test_back(self):
        shown = {0: ((0, 'stop'), (1, 'stop'), (2, 'end')), 1: ((0, 'stop'), (2, 'stop'), (3, 'end')), 2: ((0, 'stop'), (4, 'end'))}
        guard = Guarded(by_length(shown))
        self.told(shown[0], guard, LONG[:1])
        self.told(shown[1], guard, LONG[:2])
        self.refused(TookBack, (2, (3, 'stop')), guard, LONG)
        # Behind it nothing was shown.
        self.told(shown[2], guard, LONG)
        self.told(shown[2], guard, LONG)

    def test_a_log_that_is_longer_by_several_events(self):
        shown = {0: ((1, 'stop'), (2, 'end')), 2: ((0, 'stop'), (4, 'end'))}
        guard = Guarded(by_length(shown))
        self.told(shown[0], guard.shown, LONG[:1])
        self.refused(TookBack, (2, (3, 'stop')), guard.shown, LONG)

    def test_an_equal_log(self):
        answers = [((0, 'stop'), (2, 'end')), ((0, 'stop'),), ((0, 'stop'),), ()]
        guard = Guarded(lambda log: answers.pop(0))
        self.told(((0, 'stop'), (2, 'end')), guard, LONG[:1])
        self.refused(TookBack, (0, (2, 'end')), guard, LONG[:1])
        self.told(((0, 'stop'),), guard, LONG[:1])
        self.refused(TookBack, (0, (0, 'stop')), guard, LONG[:1])

    def test_shorter_and_other_logs(self):
        for between in (LONG[:1], OTHER, OTHER[:1], (LONG[0], ('put', 3, END)), (LONG[0], ('put', 3, END), ('close', 1)), (LONG[0], ('close', 1))):
            shown = {LONG[:2]: ((2, 'stop'),), LONG: ((3, 'stop'),), between: ((0, 'stop'),)}
            guard = Guarded(lambda log: shown[log])
            self.told(shown[LONG[:2]], guard, LONG[:2])
            # Of a log that does not go on from the last one nothing is taken back.
            self.told(((0, 'stop'),), guard, between)
            # What was shown then is what counts now, if this log goes on from it.
            if LONG[:len(between)] == between:
                self.refused(TookBack, (2, (0, 'stop')), guard, LONG)
            else:
                self.told(((3, 'stop'),), guard, LONG)

    def test_false_comes_ahead_of_back(self):
        answers = [((0, 'stop'),), ((3, 'stop'),), ((0, 'stop'),), ()]
        guard = Guarded(lambda log: answers.pop(0))
        guard(LONG[:1])
        self.refused(TookBack, (1, (3, 'stop')), guard, LONG[:2])
        self.told(((0, 'stop'),), guard, LONG[:2])
        self.refused(TookBack, (2, (0, 'stop')), guard, LONG)


class Between(Case):

    def test_what_is_no_usable_log_is_no_call(self):
        for thing in NOT_USABLE:
            calls = []
            answers = [((0, 'stop'),), ()]
            guard = Guarded(Asked(lambda log: answers.pop(0), calls))
            guard(LONG[:1])
            self.refused(NotUsable, ('log', -1), guard, thing)
            self.refused(NotUsable, ('log', -1), guard.shown, log=thing)
            self.assertEqual(calls, [('x', LONG[:1])])
            self.refused(TookBack, (1, (0, 'stop')), guard, LONG[:2])

    def test_an_error_of_the_checker_changes_nothing(self):
        answers = [((0, 'stop'),), None, ()]

        def raising(log):
            answer = answers.pop(0)
            if answer is None:
                raise KeyError('x')
            return answer
        guard = Guarded(raising)
        guard(LONG[:1])
        with self.assertRaises(KeyError):
            guard(LONG[:2])
        self.refused(TookBack, (2, (0, 'stop')), guard, LONG)

    def test_both_ways_of_calling(self):
        for first in (False, True):
            guard = Guarded(by_length({0: ((0, 'stop'),), 1: ()}))
            one, other = (guard, guard.shown)[::-1 if first else 1]
            self.told(((0, 'stop'),), one, LONG[:1])
            self.refused(TookBack, (1, (0, 'stop')), other, LONG[:2])


class Along(Case):

    def test_the_first_fault(self):
        chance = random.Random(99)
        faults = 0
        for k, log in enumerate(eventoracle.some_logs(chance, 100, 8, 25, seed=100)):
            for checker in (Checker(), Sure(), Hasty(), Certain('use'), CountingSure(), Wild(k, 0.1), Hasty().shown):
                guard = Guarded(checker)
                expected = fault(log, checker)
                for moment, begun in enumerate(beginnings(log)):
                    if expected and expected[0] == moment:
                        self.refused(TookBack, expected[:2], guard, begun)
                        faults += 1
                        break
                    self.told(checker(begun), guard, begun)
        self.assertGreater(faults, 100)

    def test_beside_the_words(self):
        chance = random.Random(101)
        seen = {}
        for k, log in enumerate(eventoracle.some_logs(chance, 60, 6, 20, seed=102)):
            each = beginnings(log)
            others = beginnings(eventoracle.grown_log(chance, each[len(each) // 2], 5))
            checker = Wild(k, 0.15)
            guard, twofold, watched = Guarded(checker), Guarded(Guarded(checker)), Watched(checker)
            at = 0
            for _ in range(40):
                at = min(max(0, at + chance.choice((-1, 0, 1, 1, 1, 2))), len(each) - 1)
                begun = chance.choice((each[at], each[at], each[at], chance.choice(each), chance.choice(others), None, (*each[at], ('close', 999))))
                expected = watched(begun)
                self.assertEqual(outcome(chance.choice((guard, guard.shown)), begun), expected)
                # A guard around a guard finds no more and no less.
                self.assertEqual(outcome(chance.choice((twofold, twofold.shown)), begun), expected)
                seen[expected[0]] = seen.get(expected[0], 0) + 1
        self.assertGreater(min(seen[word] for word in ('shown', 'TookBack', 'NotUsable')), 100)

    def test_a_guard_is_a_checker(self):
        chance = random.Random(103)
        for log in eventoracle.some_logs(chance, 20, 8, 20, seed=104):
            self.told(None, fault_of, log, Guarded(Sure()))

    def test_what_it_guards_is_called_once(self):
        counting = Counting()
        guard = Guarded(counting)
        guard(LONG)
        guard.shown(LONG)
        self.told(2, lambda: counting.asked)


class Classes(Case):

    def test_derived(self):
        self.assertEqual([Guarded.__bases__, Guarded.__module__], [(Checker,), guarded.__name__])
        self.assertLessEqual({'shown', '__call__'}, set(vars(Guarded)))

    def test_guards_are_kept_apart(self):
        one, other = Guarded(Hasty()), Guarded(Hasty())
        one(LOG[:1])
        self.refused(TookBack, (1, (3, 'use')), one, LOG)
        self.told(Hasty()(LOG), other, LOG)
        self.assertEqual(Hasty()(LOG[:1]), Hasty()((('writing', TEXT, (2,)),)))
