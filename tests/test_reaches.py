"""Points 55 to 58, with points 9 (S1, S2, S6), 10, 16 and 40: reaches."""

import operator
import random

from surelywrong import reaches
from surelywrong.complaining import complaints_of
from surelywrong.errors import NotUsable
from surelywrong.gapsets import Gaps
from surelywrong.going import can_go
from surelywrong.reaches import CountingReach, Reach, Widest
from surelywrong.rowtexts import gaps_words
from surelywrong.sureness import held_ones, sure_ones
from surelywrong.texts import Text
from tests.helper import ALL, BAD_CARETS, Case, ENDS, STRAY, TEXT, bad_values, is_gap_set, small_cases, some_carets
from tests.test_going import TANGLED
from tests.test_texts import THINGS

USE = (2, 'use')
OTHERS = (*THINGS, Reach((), ()), Widest(()), CountingReach(STRAY, (0,)), Text(TEXT), Gaps(2), TEXT, (2,), (TEXT, (2,)), '2', {2}, 2.5)


class Shows(Reach):
    """A derived class of the tests' own."""

    def can_go(self, some):
        return not super().can_go(some)


def all_gaps(text):
    return tuple(range(len(text) + 1))


class Examples(Case):

    def test_of_the_document(self):
        reach, counting = Reach(TEXT, (2,)), CountingReach(TEXT, (2,))
        self.told(((3, 'unused'),), lambda: reach.sure)
        self.told(4, len, reach)
        self.told(True, operator.contains, reach, (0, 'falls'))
        self.told(False, operator.contains, reach, (3, 'unused'))
        self.told(True, (reach | (4,)).can_go, ALL)
        self.told(True, operator.eq, reach, counting)
        self.told(False, counting.can_go, ALL)
        self.told(True, counting.can_go, ((2, 'use'),))
        self.told(2, lambda: counting.asked)
        self.told(True, Widest(TEXT).can_go, ALL)


class Properties(Case):

    def same(self, reach, text, carets):
        """A reach, of whatever class, tells of this text and these carets."""
        self.told(text, lambda: reach.text)
        self.told(carets, lambda: reach.carets)
        self.told(sure_ones(text, carets), lambda: reach.sure)
        self.told(held_ones(text, carets), lambda: reach.held)
        self.told(len(held_ones(text, carets)), len, reach)
        self.told(gaps_words(carets), str, reach)
        self.assertEqual(sorted([*reach.sure, *reach.held]), list(complaints_of(text)))
        for complaint in complaints_of(text):
            self.told(complaint in held_ones(text, carets), operator.contains, reach, complaint)

    def test_of_many_texts(self):
        for text, carets, some in small_cases(60, 6, seed=73):
            for made in (Reach, CountingReach, Shows):
                self.same(made(text, carets), text, carets)
                self.same(made(carets=carets, text=text), text, carets)
            self.same(Widest(text), text, all_gaps(text))
            self.told(can_go(text, carets, some), Reach(text, carets).can_go, some)
            self.told(can_go(text, carets, some), CountingReach(text, carets).can_go, some=some)
            self.told(can_go(text, all_gaps(text), some), Widest(text=text).can_go, some)

    def test_edges(self):
        self.same(Reach((), ()), (), ())
        self.same(Widest(()), (), (0,))
        self.same(Reach(TEXT, ()), TEXT, ())
        self.told('-', str, Reach(TEXT, ()))
        self.told('0', str, Widest(()))

    def test_they_are_only_read(self):
        for reach in (Reach(TEXT, (2,)), Widest(TEXT), CountingReach(TEXT, (2,))):
            for name in ('text', 'carets', 'sure', 'held', *(('asked',) if isinstance(reach, CountingReach) else ())):
                with self.assertRaises(AttributeError):
                    setattr(reach, name, ())

    def test_methods_stand_in_the_class(self):
        self.assertLessEqual({'text', 'carets', 'sure', 'held', 'can_go', '__or__', '__contains__', '__len__', '__eq__', '__str__'},
                             set(vars(Reach)))
        self.assertLessEqual({'can_go', 'asked'}, set(vars(CountingReach)))
        self.assertEqual([Widest.__bases__, CountingReach.__bases__, Reach.__module__], [(Reach,), (Reach,), reaches.__name__])


class Joined(Case):

    def test_more_carets(self):
        chance = random.Random(74)
        for text, carets, some in small_cases(50, 6, seed=75):
            more = some_carets(chance, text)
            both = tuple(sorted({*carets, *more}))
            for reach in (Reach(text, carets), CountingReach(text, carets), Shows(text, carets)):
                joined = reach | more
                self.assertIs(type(joined), Reach)
                self.told(both, lambda: joined.carets)
                self.told(carets, lambda: reach.carets)
                self.told(text, lambda: joined.text)
                self.told(can_go(text, both, some), joined.can_go, some)
                # What could go can go, and what was held is held.
                self.assertLessEqual(set(held_ones(text, carets)), set(joined.held))
            wide = Widest(text) | more
            self.assertIs(type(wide), Reach)
            self.told(all_gaps(text), lambda: wide.carets)

    def test_the_same_object_stays(self):
        reach = other = Reach(TEXT, (2,))
        reach |= (4,)
        self.assertEqual([reach.carets, other.carets], [(2, 4), (2,)])

    def test_no_set_of_gaps(self):
        for reach in (Reach(TEXT, (2,)), Widest(TEXT), CountingReach(TEXT, (2,))):
            before = reach.carets
            for thing in (*OTHERS, *BAD_CARETS):
                if not is_gap_set(thing, 6):
                    self.refused(NotUsable, ('carets', -1), operator.or_, reach, thing)
            self.assertEqual(reach.carets, before)
        self.refused(NotUsable, ('carets', -1), operator.or_, Reach((), ()), (1,))


class Contents(Case):

    def test_any_value(self):
        for reach in (Reach(TEXT, (2,)), CountingReach(TEXT, (2,)), Reach(TEXT, ()), Reach((), (0,))):
            for thing in (*OTHERS, reach, (False, 'falls'), (0, 'fall'), [0, 'falls'], (0, 'falls', 0), (0, ['falls']), (3, 'unused'), ALL, (ALL[0],)):
                self.told(False, operator.contains, reach, thing)
        self.told(True, operator.contains, Reach((('stop',), ('stop',)), (0, 1)), (1, 'stop'))
        self.told(False, operator.contains, Reach((('stop',), ('stop',)), (0, 1)), (True, 'stop'))


class Equality(Case):

    def test_of_whatever_class(self):
        same = [Reach(TEXT, all_gaps(TEXT)), Widest(TEXT), CountingReach(TEXT, all_gaps(TEXT)), Shows(TEXT, all_gaps(TEXT)),
                Reach(TEXT, (2,)) | all_gaps(TEXT)]
        for one in same:
            for other in same:
                self.told(True, operator.eq, one, other)
                self.told(False, operator.ne, one, other)

    def test_counts_do_not_matter(self):
        one, other = CountingReach(TEXT, (2,)), CountingReach(TEXT, (2,))
        one.can_go(ALL)
        self.told(True, operator.eq, one, other)

    def test_text_and_carets(self):
        for one in (Reach(TEXT, (2,)), CountingReach(TEXT, (2,)), Shows(TEXT, (2,))):
            for other in (Reach(TEXT, (2, 4)), Reach(TEXT, ()), Reach((*TEXT, ('stop',)), (2,)), Reach(TEXT[:5], (2,)), Widest(TEXT), *OTHERS):
                self.told(False, operator.eq, one, other)
                self.told(True, operator.ne, one, other)
                self.told(False, operator.eq, other, one)


class Counted(Case):

    def test_calls(self):
        counting = CountingReach(TEXT, (2,))
        self.told(0, lambda: counting.asked)
        bad = bad_values()['some']
        for k, (some, fields) in enumerate(bad):
            self.refused(NotUsable, fields, counting.can_go, some)
            self.told(k + 1, lambda: counting.asked)
        for some in (ALL, (), (USE,), ((3, 'unused'),)):
            counting.can_go(some=some)
        self.told(len(bad) + 4, lambda: counting.asked)

    def test_nothing_else_counts(self):
        counting, other = CountingReach(TEXT, (2,)), CountingReach(TEXT, (2,))
        self.assertTrue(counting == other and USE in counting and str(counting) == '2' and len(counting) == 4 and counting.held and counting.sure)
        (counting | (4,)).can_go(ALL)
        self.assertEqual([counting.asked, other.asked], [0, 0])
        other.can_go(ALL)
        self.assertEqual([counting.asked, other.asked], [0, 1])
        with self.assertRaises(AttributeError):
            (counting | (4,)).asked

    def test_derived_classes(self):
        class Both(Shows, CountingReach):
            pass
        both = Both(TEXT, (2,))
        self.told(True, both.can_go, ALL)
        self.told(1, lambda: both.asked)


class WhatFollows(Case):

    def test_all_gaps_and_none(self):
        for text in (*TANGLED, TEXT, STRAY, ENDS, ()):
            complaints = complaints_of(text)
            self.told(True, Widest(text).can_go, complaints)
            self.told((), lambda: Widest(text).sure)
            nothing = Reach(text, ())
            self.told((), lambda: nothing.held)
            self.told(True, nothing.can_go, ())
            for complaint in complaints:
                self.told(False, nothing.can_go, (complaint,))

    def test_each_of_held_and_all_of_it(self):
        reach = Reach(TEXT, (2,))
        for one in reach.held:
            self.told(True, reach.can_go, (one,))
        self.told(False, reach.can_go, reach.held)


class Wrong(Case):

    def test_what_is_not_usable(self):
        self.unusable(Reach, text=TEXT, carets=(2, 4))
        self.unusable(CountingReach, text=TEXT, carets=(2, 4))
        self.unusable(Widest, text=TEXT)
        for made in (Reach, CountingReach):
            self.refused(NotUsable, ('text', -1), made, Text(TEXT), (2,))
            self.refused(NotUsable, ('carets', -1), made, TEXT, Gaps(2))
        self.refused(NotUsable, ('text', -1), Widest, Text(TEXT))

    def test_sets(self):
        for reach in (Reach(TEXT, (2,)), Widest(TEXT)):
            self.unusable(reach.can_go, some=ALL)
