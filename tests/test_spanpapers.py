"""Point 53, with points 8 to 10 and 51: papers of spans, and their checker."""

import random
import time

from surelywrong.complaining import complaints_of
from surelywrong.errors import InvalidPaper
from surelywrong.going import can_go
from surelywrong.spanchecker import lets_spans
from surelywrong.spanning import fewest_carets, needed_spans
from surelywrong.spanpapers import span_paper
from tests import paperoracle
from tests.helper import ALL, BAD_CARETS, BAD_SOMES, Case, ODD, TEXT, changed, is_gap_set, same, some_texts
from tests.test_spanning import GREAT, laddered_texts, outside

USE, OTHER, STOP = (2, 'use'), (3, 'unused'), ('stop',)
SPANS = (((2, 2), (USE,)), ((3, 5), (OTHER,)))
RIGHT = ('carets', (2, 4), SPANS)


class Examples(Case):

    def test_of_the_document(self):
        self.told(2, lets_spans, TEXT, ALL, ('carets', (2, 4), (((2, 2), ((2, 'use'),)), ((3, 5), ((3, 'unused'),)))))

    def test_by_name(self):
        paper = span_paper(some=ALL, text=TEXT)
        self.told(2, lets_spans, thing=paper, some=ALL, text=TEXT)


class Papers(Case):

    def right(self, text, some):
        paper = span_paper(text, some)
        self.assertEqual([type(paper), len(paper), paper[0]], [tuple, 3, 'carets'])
        self.told(len(fewest_carets(text, some)), lets_spans, text, some, paper)
        self.assertEqual([len(paper[1]), len(paper[2])], [len(fewest_carets(text, some))] * 2)
        return paper

    def test_of_many_sets(self):
        seen = {}
        for text, some in laddered_texts(150, 11, seed=67):
            paper = self.right(text, some[:8])
            self.assertIsNone(paperoracle.span_fault(text, some[:8], paper), (text, some[:8], paper))
            seen[len(paper[1])] = True
        self.assertGreater(len(seen), 4)

    def test_of_nothing(self):
        for text in (TEXT, (), (STOP,)):
            self.told(('carets', (), ()), span_paper, text, ())
            self.told(0, lets_spans, text, (), ('carets', (), ()))

    def test_of_great_sets(self):
        for text in (*GREAT, *some_texts(4, 60, seed=68)):
            some = complaints_of(text)
            start = time.perf_counter()
            paper = self.right(text, some)
            self.assertLess(time.perf_counter() - start, 4)
            # Each part is as small as it can be: none of it can be left out.
            for span, part in paper[2]:
                for k in range(len(part)):
                    self.told(True, can_go, text, outside(text, span), part[:k] + part[k + 1:])


class Shapes(Case):

    def test_any_value(self):
        for thing in (*ODD, RIGHT[:2], (*RIGHT, ()), list(RIGHT), ('caret', *RIGHT[1:]), (('carets',), *RIGHT[1:]), ('carets', [2, 4], SPANS),
                      ('carets', (2, 4), list(SPANS)), ('carets', (2, 4), SPANS[0]), ('carets', (2, 4), (SPANS[0][:1],)),
                      ('carets', (2, 4), ((*SPANS[0], 0),)), ('carets', (2, 4), (list(SPANS[0]), SPANS[1])), ('carets', None, ()),
                      ('carets', 2, ()), ('carets', (), None), ('carets', (2, 4), (SPANS[0], None)), ('carets', (2, 4), (SPANS[0], ()))):
            self.refused(InvalidPaper, ('shape', -1), lets_spans, TEXT, ALL, thing)

    def test_shapes_come_first(self):
        self.refused(InvalidPaper, ('shape', -1), lets_spans, TEXT, ALL, ('carets', (99,), (((9, 0), None), ())))


class Gaps(Case):

    def test_no_set_of_gaps(self):
        things = [thing for thing in (*ODD, *BAD_CARETS) if type(thing) is tuple and not is_gap_set(thing, 6)]
        for gaps in (*things, (4, 2), (2, 2, 4), (2, 4, 7), (2, True, 4), (2, '4'), ((2, 4),)):
            self.refused(InvalidPaper, ('carets', -1), lets_spans, TEXT, ALL, ('carets', gaps, SPANS))
            self.refused(InvalidPaper, ('carets', -1), lets_spans, TEXT, ALL, ('carets', gaps, ((None, None),)))

    def test_gaps_at_which_it_cannot_go(self):
        for gaps in ((), (2,), (4,), (0, 4), (2, 3), (2, 5, 6)):
            self.refused(InvalidPaper, ('carets', -1), lets_spans, TEXT, ALL, ('carets', gaps, SPANS[:len(gaps)]))


class Spans(Case):

    def wrong(self, word, at, *spans, gaps=(2, 4), some=ALL):
        self.refused(InvalidPaper, (word, at), lets_spans, TEXT, some, ('carets', gaps, spans))

    def test_no_spans(self):
        bad = [thing for thing in ODD if thing not in ((0, 0), (0, 1)) and thing != (2, 2)]
        for span in (*bad, (5, 3), (3, 7), (7, 7), (-1, 5), (True, 5), (3, True), [3, 5], (3, 5, 5), (3,), ('3', 5), (3, None)):
            self.wrong('span', 1, SPANS[0], (span, (OTHER,)))
            self.wrong('span', 0, (span, None))

    def test_spans_with_a_common_gap_or_not_ascending(self):
        for spans in ((SPANS[1], SPANS[0]), (SPANS[0], SPANS[0]), (SPANS[1], SPANS[1]), (((2, 3), (USE,)), ((3, 5), (OTHER,))),
                      (((0, 4), (USE,)), ((4, 4), (OTHER,))), (((1, 6), (USE,)), ((2, 4), (OTHER,)))):
            self.wrong('span', 1, *spans)
        self.told(2, lets_spans, TEXT, ALL, ('carets', (2, 4), (((0, 3), (USE,)), ((4, 6), (OTHER,)))))

    def test_parts(self):
        bad = [thing for thing in (*ODD, *BAD_SOMES) if thing != ()]
        for part in (*bad, (), [USE], USE, (OTHER, USE), (USE, USE), ((2, 'twice'),), ((0, 'falls'),), ((9, 'use'),), None):
            self.wrong('part', 0, ((2, 2), part), SPANS[1])
            self.wrong('part', 1, SPANS[0], ((3, 5), part))
        self.wrong('part', 0, ((1, 1), (USE,)), SPANS[1])
        self.wrong('part', 1, SPANS[0], ((3, 3), (OTHER,)))
        self.wrong('part', 1, SPANS[0], SPANS[1], some=ALL[:3])
        # All of some shows it as well.
        self.told(2, lets_spans, TEXT, ALL, ('carets', (2, 4), (((2, 2), ALL), ((3, 5), ALL))))
        self.told(2, lets_spans, TEXT, ALL, ('carets', (2, 4), (((2, 2), (USE,)), ((3, 5), (USE, (3, 'twice'), (5, 'use'))))))

    def test_each_element_as_a_whole(self):
        self.wrong('part', 0, ((2, 2), ()), (None, None))
        self.wrong('span', 0, (None, None), ((3, 5), ()))
        self.wrong('span', 1, SPANS[0], (None, None), (None, None))

    def test_sums(self):
        for spans in ((), SPANS[:1], SPANS[1:]):
            self.wrong('sum', -1, *spans)
        for gaps in ((2, 3, 4), (0, 2, 4, 6), (0, 1, 2, 3, 4, 5, 6)):
            self.wrong('sum', -1, *SPANS, gaps=gaps)
        for gaps in ((2,), (0, 2), tuple(range(7))):
            paper = ('carets', gaps, (((2, 2), (USE,)),))
            if len(gaps) == 1:
                self.told(1, lets_spans, TEXT, (USE,), paper)
            else:
                self.refused(InvalidPaper, ('sum', -1), lets_spans, TEXT, (USE,), paper)


class Changed(Case):

    def judged(self, text, some, paper):
        fault = paperoracle.span_fault(text, some, paper)
        if fault:
            self.refused(InvalidPaper, fault, lets_spans, text, some, paper)
        else:
            self.told(len(fewest_carets(text, some)), lets_spans, text, some, paper)
        return fault[0] if fault else 'right'

    def test_papers_with_changes(self):
        chance = random.Random(69)
        seen = {}
        for text, some in laddered_texts(120, 9, seed=70):
            some = some[:7]
            word, gaps, spans = span_paper(text, some)
            papers = [changed(chance, (word, gaps, spans)) for _ in range(4)]
            papers += [(word, gaps, changed(chance, spans)) for _ in range(10)]
            papers.append((word, tuple(range(len(text) + 1)), spans))
            for paper in papers:
                fault = self.judged(text, some, paper)
                seen[fault] = seen.get(fault, 0) + 1
        self.assertEqual(sorted(seen), ['carets', 'part', 'right', 'shape', 'span', 'sum'])
        self.assertGreater(min(seen.values()), 10)

    def test_papers_of_other_sets(self):
        cases = [(text, some[:7]) for text, some in laddered_texts(80, 9, seed=71)]
        for (text, some), (other, others) in zip(cases, cases[1:]):
            self.judged(text, some[1:], span_paper(text, some))
            self.judged(text, some, span_paper(text, some[1:]))
            self.judged(text, some, span_paper(other, others))

    def test_all_needed_spans_apart_are_papers(self):
        for text, some in laddered_texts(80, 9, seed=72):
            # From the last one back, the spans that begin last hinder the fewest.
            apart = []
            for span in needed_spans(text, some)[::-1]:
                if not apart or span[1] < apart[0][0]:
                    apart = [span, *apart]
            self.told(len(apart), lets_spans, text, some, ('carets', fewest_carets(text, some), tuple((span, some) for span in apart)))

    def test_papers_are_not_changed(self):
        paper = span_paper(TEXT, ALL)
        lets_spans(TEXT, ALL, paper)
        self.assertTrue(same(paper, span_paper(TEXT, ALL)))


class Wrong(Case):

    def test_what_is_not_usable(self):
        self.unusable(span_paper, text=TEXT, some=ALL)
        self.unusable(lets_spans, text=TEXT, some=ALL, thing=('carets', None, ()))
