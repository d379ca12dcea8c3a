"""Point 66, with points 5, 7, 10, 34, 59 and 60: checkers."""

import random

from surelywrong import checkers
from surelywrong.checkers import Certain, Checker, Counting, CountingSure, Hasty, Sure
from surelywrong.complaining import complaints_of
from surelywrong.errors import NotUsable
from surelywrong.guarded import Guarded
from surelywrong.sureness import sure_ones
from surelywrong.writings import Writing
from tests import eventoracle
from tests.helper import Case, ODD, TEXT, WORDS
from tests.test_eventkinds import NO_EVENTS
from tests.test_texts import THINGS

END, STOP, LET = ('end',), ('stop',), ('let', 'x', 'text')
BEGUN = ('writing', TEXT, (2,))
LOG = (BEGUN, ('put', 2, LET))
# No logs, and logs with an event that is not possible.
NOT_POSSIBLE = ((BEGUN, ('put', 3, END)), (BEGUN, ('close', 2), ('close', 2)), (*LOG, ('put', 2, END)), (('writing', (), ()), ('close', 0)),
                (BEGUN, ('close', 0), ('put', 2, END)), (BEGUN, ('put', 10 ** 59, END)), (('writing', TEXT, (0, 2)), ('close', 0), ('put', 0, END)))
NOT_USABLE = (*ODD, BEGUN, list(LOG), LOG[1:], (list(BEGUN), LOG[1]), (('writing', TEXT, (7,)),), *[(BEGUN, event) for event in NO_EVENTS], *NOT_POSSIBLE)


class Pairs(Checker):
    """Shows just these pairs."""

    def __init__(self, *pairs):
        self.pairs = pairs

    def shown(self, log):
        return self.pairs


class Logged(Sure):
    """Shows what is sure, and keeps with which logs it was called."""

    def __init__(self):
        self.logs = []

    def shown(self, log):
        self.logs.append(log)
        return super().shown(log)


class CountingHasty(Counting, Hasty):
    pass


class CountingPairs(Counting, Pairs):

    def __init__(self, *pairs):
        Counting.__init__(self)
        Pairs.__init__(self, *pairs)


class CountingCertain(Counting, Certain):

    def __init__(self, *words):
        Counting.__init__(self)
        Certain.__init__(self, *words)


class Twofold(CountingSure):
    pass


def made():
    """One checker of each kind."""
    return [Checker(), Sure(), Hasty(), Certain('use', 'end'), Counting(), CountingSure(), CountingHasty(), CountingCertain('use'), Twofold(),
            Logged(), Guarded(Sure())]


class Shown(Case):

    def each(self, log, rows, carets):
        sure = sure_ones(rows, carets)
        for checker, expected in (
                (Checker(), ()), (Sure(), sure), (Hasty(), complaints_of(rows)), (Counting(), ()), (CountingSure(), sure), (Twofold(), sure),
                (Certain(), ()), (Certain(*WORDS), sure), (Certain('use', 'end', 'use'), tuple(one for one in sure if one[1] in ('use', 'end'))),
                (CountingHasty(), complaints_of(rows)), (CountingCertain('twice'), tuple(one for one in sure if one[1] == 'twice'))):
            self.told(expected, checker, log)
            self.told(expected, checker.shown, log)
            self.told(expected, checker.shown, log=log)
            self.told(expected, checker, log=log)

    def test_of_the_document(self):
        self.each(LOG[:1], TEXT, (2,))
        self.told(((3, 'unused'),), Sure(), LOG[:1])
        self.told(((1, 'unused'), (2, 'twice'), (4, 'unused')), Sure(), LOG)

    def test_along_many_logs(self):
        chance = random.Random(89)
        words = {}
        for log in eventoracle.some_logs(chance, 40, 12, 30, seed=90):
            tokens = eventoracle.moments(log)[-1]
            self.each(log, eventoracle.rows_in(tokens), eventoracle.carets_in(tokens))
            for word in WORDS:
                told = Certain(word)(log)
                self.assertEqual([one for one in Sure()(log) if one[1] == word], list(told))
                words[word] = words.get(word, 0) + len(told)
        self.assertGreater(min(words.values()), 0)

    def test_logs_of_more_than_forty_events(self):
        log = (('writing', (), (0,)), *[('put', k, END) for k in range(60)])
        self.told(tuple((k, 'end') for k in range(60)), Sure(), log)
        self.told(((0, 'end'),), Sure(), (*log[:2], ('close', 1)))


class Words(Case):

    def test_no_words(self):
        for thing in (*THINGS, 'uses', 'USE', 'let', 'use ', ('use',)):
            if thing not in WORDS or type(thing) is not str:
                self.refused(NotUsable, ('words', 0), Certain, thing)
                self.refused(NotUsable, ('words', 2), Certain, 'use', 'use', thing, 'end', thing)
        self.refused(NotUsable, ('words', 0), Certain, WORDS)


class Calls(Case):

    def test_counted_either_way(self):
        for checker in (Counting(), CountingSure(), CountingHasty(), Twofold(), CountingPairs((0, 'use')), CountingCertain('end')):
            self.told(0, lambda: checker.asked)
            checker(LOG)
            self.told(1, lambda: checker.asked)
            checker.shown(LOG)
            checker.shown(log=LOG)
            self.told(3, lambda: checker.asked)
            with self.assertRaises(AttributeError):
                checker.asked = 0

    def test_counted_with_an_error(self):
        for checker in (Counting(), CountingSure(), CountingHasty()):
            for k, log in enumerate(NOT_USABLE):
                self.refused(NotUsable, ('log', -1), checker, log)
                self.refused(NotUsable, ('log', -1), checker.shown, log)
                self.told(2 * k + 2, lambda: checker.asked)

    def test_derived_classes_shown_by_a_call(self):
        pairs = ((1, 'use'), (7, 'end'))
        self.told(pairs, Pairs(*pairs), LOG)
        self.told(pairs, Pairs(*pairs).shown, LOG)
        self.told(pairs, CountingPairs(*pairs), LOG)
        logged = Logged()
        self.told(Sure()(LOG), logged, LOG)
        self.assertEqual(logged.logs, [LOG])

    def test_counts_are_kept_apart(self):
        one, other = CountingSure(), CountingSure()
        one(LOG)
        self.told((1, 0), lambda: (one.asked, other.asked))


class Classes(Case):

    def test_derived(self):
        for one in (Sure, Hasty, Certain, Counting):
            self.assertEqual(one.__bases__, (Checker,))
        self.assertEqual([Checker.__bases__, CountingSure.__bases__], [(object,), (Counting, Sure)])

    def test_methods_stand_in_the_class(self):
        for one in (Checker, Sure, Hasty, Certain, Counting, CountingSure):
            self.assertLessEqual({'shown', '__call__'}, set(vars(one)))
            self.assertEqual(one.__module__, checkers.__name__)
        self.assertIsInstance(vars(Counting)['asked'], property)


class Wrong(Case):

    def test_logs(self):
        for checker in made():
            for log in (*NOT_USABLE, Writing(TEXT, (2,))):
                self.refused(NotUsable, ('log', -1), checker, log)
                self.refused(NotUsable, ('log', -1), checker.shown, log=log)
