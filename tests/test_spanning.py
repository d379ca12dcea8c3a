"""Points 51, 52 and 54, with points 6 to 10 (S5, S6): spans, and the fewest carets."""

import random
import time
from itertools import combinations

from surelywrong.complaining import complaints_of
from surelywrong.errors import NotUsable
from surelywrong.going import can_go, going_way
from surelywrong.growing import gone_by
from surelywrong.sureness import taking_away
from surelywrong.spanning import fewest_carets, helping_gaps, is_needed, needed_spans
from tests import oracle
from tests.helper import ALL, Case, ENDS, ODD, STRAY, TEXT, bad_values, few_row_texts, some_carets, some_texts
from tests.test_going import TANGLED

IF, END, STOP, LET, USE = ('open', 'if'), ('end',), ('stop',), ('let', 'x', 'a'), ('use', 'x', 'b')
RUNGS = ((2, 'use'), (3, 'twice'), (5, 'use'))
LETTERS = 'abcdefghijklmnopqrst'
# Sixty rows: many layers with links of both kinds, and many uses and gives of unlike kinds.
GREAT = (
    *TANGLED[4:], tuple(row for k in range(15) for row in (('give', 'ab'[k % 2]), LET, STOP, END)),
    tuple(row for k in range(15) for row in (('use', 'x', LETTERS[k]), LET, ('let', 'x', 'b'), END)), (('use', 'x', 'a'), USE) * 30,
    (*[('use', 'x', kind) for kind in LETTERS], *(('let', 'x', 'b'), END) * 10, *[('use', 'x', kind) for kind in LETTERS]),
    (*[('give', kind) for kind in LETTERS], *(STOP, END) * 10, *[('give', kind) for kind in LETTERS]),
    (*[IF] * 20, LET, *(USE, ('use', 'x', 'c')) * 9, *(LET, END) * 10, END))


def gaps_of(text):
    return range(len(text) + 1)


def gap_sets(text):
    """All sets of gaps, the small ones first."""
    return [carets for many in range(len(text) + 2) for carets in combinations(gaps_of(text), many)]


def spans_of(text):
    return [(first, last) for first in gaps_of(text) for last in range(first, len(text) + 1)]


def outside(text, span):
    return tuple(gap for gap in gaps_of(text) if gap < span[0] or gap > span[1])


def laddered_texts(many, longest, seed):
    """Small texts with many ladders, each with some of its complaints."""
    chance = random.Random(seed)
    dense = (('give', 'a'), ('give', 'b'), STOP, STOP, END), (END, LET, USE, ('use', 'x', 'c')), (IF, END, STOP, LET, USE, ('give', 'c'), ('use', 'x', 'c'))
    for k in range(many):
        ahead = (LET, IF, LET)[:chance.randint(0, 3)]
        text = ahead + tuple(chance.choice(dense[k % 3]) for _ in range(chance.randint(1, longest - len(ahead))))
        complaints = complaints_of(text)
        yield text, tuple(sorted(chance.sample(complaints, chance.randint(0, len(complaints)))))


class Examples(Case):

    def test_of_the_document(self):
        self.told(((2, 2), (4, 4)), needed_spans, TEXT, ALL)
        self.told((2, 4), fewest_carets, TEXT, ALL)
        self.told(True, is_needed, TEXT, (3, 5), ALL)
        self.told(False, is_needed, TEXT, (3, 3), ALL)
        self.told((4,), helping_gaps, TEXT, (2,), ALL)
        self.told((), helping_gaps, TEXT, (0,), ALL)
        self.told(((2, 2), (3, 5)), needed_spans, TEXT, RUNGS)

    def test_by_name(self):
        self.told(True, is_needed, some=ALL, span=(2, 2), text=TEXT)
        self.told(((2, 2), (4, 4)), needed_spans, some=ALL, text=TEXT)
        self.told((2, 4), fewest_carets, some=ALL, text=TEXT)
        self.told((4,), helping_gaps, some=ALL, carets=(2,), text=TEXT)


class Edges(Case):

    def test_nothing_needs_nothing(self):
        for text in (TEXT, STRAY, ENDS, (), *TANGLED):
            self.told((), needed_spans, text, ())
            self.told((), fewest_carets, text, ())
            for carets in ((), (0,), tuple(gaps_of(text))):
                self.told(tuple(gaps_of(text)), helping_gaps, text, carets, ())
            for span in ((0, 0), (0, len(text)), (len(text), len(text))):
                self.told(False, is_needed, text, span, ())

    def test_all_gaps_as_a_span(self):
        for text in (TEXT, STRAY, ENDS, *TANGLED):
            for complaint in complaints_of(text):
                self.told(True, is_needed, text, (0, len(text)), (complaint,))

    def test_one_complaint_needs_a_caret_in_its_stretch(self):
        for text in (TEXT, STRAY, ENDS, *TANGLED[:4], *few_row_texts(2)):
            for complaint in complaints_of(text):
                first, last = oracle.stretch(text, *complaint)
                self.told(((first, last),), needed_spans, text, (complaint,))
                self.assertEqual(len(fewest_carets(text, (complaint,))), 1)
                self.told(tuple(range(first, last + 1)), helping_gaps, text, (), (complaint,))
                self.told(True, is_needed, text, (first, last), (complaint,))
                if first < last:
                    self.told(False, is_needed, text, (first + 1, last), (complaint,))
                    self.told(False, is_needed, text, (first, last - 1), (complaint,))

    def test_a_ladder_needs_a_caret_among_its_rows(self):
        other = ('use', 'x', 'c')
        self.told(((0, 0), (1, 1)), needed_spans, (USE, other), ((0, 'use'), (1, 'use')))
        self.told(((0, 0), (1, 3)), needed_spans, (USE, IF, END, other), ((0, 'use'), (3, 'use')))
        self.told((1, 2, 3), helping_gaps, (USE, IF, END, other), (0,), ((0, 'use'), (3, 'use')))
        # An end row between, and no let that is to be there once: the second use sees another let.
        text = (USE, LET, LET, END, other)
        self.told(((0, 0),), needed_spans, text, ((0, 'use'), (4, 'use')))
        self.told(((0, 0), (2, 2)), needed_spans, text, ((0, 'use'), (2, 'twice'), (4, 'use')))
        self.told((2,), helping_gaps, text, (0,), ((0, 'use'), (2, 'twice'), (4, 'use')))
        # From gap 0 on, the stop ties the gives.
        text = (('give', 'a'), STOP, END, ('give', 'b'))
        self.told(((0, 0), (1, 3)), needed_spans, text, ((0, 'give'), (1, 'stop'), (3, 'give')))
        self.told(((0, 0),), needed_spans, text, ((0, 'give'), (3, 'give')))


class Compared(Case):

    def held(self, text, some):
        """All that is told of a text and some is what all sets of gaps show."""
        goes = {carets: can_go(text, carets, some) for carets in gap_sets(text)}
        needed = [span for span in spans_of(text) if not goes[outside(text, span)]]
        for span in spans_of(text):
            self.told(span in needed, is_needed, text, span, some)
        least = tuple(one for one in needed if not any(one != other and one[0] <= other[0] and other[1] <= one[1] for other in needed))
        self.told(least, needed_spans, text, some)
        fewest = fewest_carets(text, some)
        self.assertIs(type(fewest), tuple)
        self.assertTrue(goes[fewest], (text, some, fewest))
        self.assertEqual(len(fewest), min(len(carets) for carets in goes if goes[carets]))
        # (S5): as many as the most needed spans apart.
        apart = [part for part in combinations(least, len(fewest)) if all(one[1] < other[0] for one, other in zip(part, part[1:]))]
        self.assertTrue(apart, (text, some))
        self.follows(text, some, goes, least)
        return len(fewest)

    def follows(self, text, some, goes, least):
        """Point 54, and what helps."""
        for carets in goes:
            self.assertEqual(goes[carets], all(any(first <= gap <= last for gap in carets) for first, last in least))
        for carets in list(goes)[::7]:
            without = [span for span in least if not any(span[0] <= gap <= span[1] for gap in carets)]
            helping = tuple(gap for gap in gaps_of(text) if goes[tuple(sorted({*carets, gap}))])
            self.told(helping, helping_gaps, text, carets, some)
            self.assertEqual(helping, tuple(gap for gap in gaps_of(text) if all(first <= gap <= last for first, last in without)))
        self.assertEqual(least == (), some == ())
        for ends in zip(*least):
            self.assertEqual(len(set(ends)), len(least))

    def test_small_texts_with_all_their_complaints(self):
        for text in (*few_row_texts(3)[::2], *some_texts(100, 7, seed=60)):
            self.held(text, complaints_of(text))

    def test_small_texts_with_ladders(self):
        seen = {}
        for text, some in laddered_texts(230, 8, seed=61):
            many = self.held(text, some)
            seen[many] = seen.get(many, 0) + 1
        self.assertGreater(min(seen.get(many, 0) for many in range(5)), 4)

    def test_the_very_words_of_sure_and_ladder(self):
        for text, some in laddered_texts(60, 6, seed=62):
            some = some[:7]
            for span in spans_of(text):
                carets = outside(text, span)
                self.told(not oracle.goes(text, carets, some, oracle.ladders(text, carets, some)), is_needed, text, span, some)

    def test_ways_at_the_fewest(self):
        for text, some in laddered_texts(100, 20, seed=63):
            carets = fewest_carets(text, some)
            way = going_way(text, carets, some)
            self.assertLessEqual(set(some), set(gone_by(text, way)))
            for gap in carets:
                fewer = tuple(other for other in carets if other != gap)
                self.told(False, can_go, text, fewer, some)

    def test_more_carets_help_no_less(self):
        chance = random.Random(64)
        for text, some in laddered_texts(100, 12, seed=65):
            carets = some_carets(chance, text)
            more = tuple(sorted({*carets, *some_carets(chance, text)}))
            self.assertLessEqual(set(helping_gaps(text, carets, some)), set(helping_gaps(text, more, some)))


class Great(Case):

    def test_within_few_seconds(self):
        for text in (*GREAT, *some_texts(4, 60, seed=66)):
            some = complaints_of(text)
            start = time.perf_counter()
            spans, carets = needed_spans(text, some), fewest_carets(text, some)
            helping = helping_gaps(text, carets[1:], some)
            is_needed(text, (0, len(text) // 2), some)
            self.assertLess(time.perf_counter() - start, 4)
            self.told(True, can_go, text, carets, some)
            for first, last in spans:
                self.told(True, is_needed, text, (first, last), some)
                for less in ((first + 1, last), (first, last - 1)):
                    if less[0] <= less[1]:
                        self.told(False, is_needed, text, less, some)
            self.assertLessEqual(set(carets[:1]), set(helping))
            for gap in gaps_of(text):
                self.told(can_go(text, tuple(sorted({*carets[1:], gap})), some), lambda: gap in helping)

    def test_one_complaint_of_many(self):
        for text in GREAT:
            for complaint in complaints_of(text)[::9]:
                gap = fewest_carets(text, (complaint,))
                self.assertIsNotNone(taking_away(text, gap, complaint))


class Wrong(Case):

    SPANS = ((0, 7), (7, 7), (-1, 2), (3, 2), (True, 2), (0, True), (0,), (0, 1, 2), [0, 1], (0, '1'), (None, 1), ((0, 1),), 3, (0, 10 ** 59))

    def bad_spans(self):
        odd = [thing for thing in ODD if not (type(thing) is tuple and len(thing) == 2 and all(type(gap) is int and 0 <= gap < 7 for gap in thing)
                                              and thing[0] <= thing[1])]
        return [*odd, *self.SPANS]

    def test_what_is_not_usable(self):
        for call in (needed_spans, fewest_carets):
            self.unusable(call, text=TEXT, some=ALL)
        self.unusable(helping_gaps, text=TEXT, carets=(2, 4), some=ALL)
        self.unusable(is_needed, text=TEXT, span=(2, 4), some=ALL)

    def test_spans(self):
        for span in self.bad_spans():
            self.refused(NotUsable, ('span', -1), is_needed, TEXT, span, ALL)
            self.refused(NotUsable, ('span', -1), is_needed, text=TEXT, span=span, some=None)
            self.refused(NotUsable, ('text', -1), is_needed, None, span, ALL)
        for thing, fields in bad_values()['some']:
            self.refused(NotUsable, fields, is_needed, TEXT, (2, 4), thing)
        self.told(True, is_needed, (STOP,), (0, 1), ((0, 'stop'),))
        self.refused(NotUsable, ('span', -1), is_needed, (STOP,), (0, 2), ((0, 'stop'),))
        self.refused(NotUsable, ('span', -1), is_needed, (), (0, 1), ())
