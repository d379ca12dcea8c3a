"""Points 41 and 43, with points 6, 8, 9, 10, 34 and 37: papers that show whether a set can go, and their checker."""

import random

from surelywrong.errors import InvalidPaper
from surelywrong.going import can_go, going_way
from surelywrong.goingchecker import lets_going
from surelywrong.goingpapers import going_paper
from surelywrong.laddering import is_ladder, ladders_of
from surelywrong.sureness import is_sure, sure_ones, taking_away
from tests import paperoracle
from tests.helper import ALL, Case, ODD, TEXT, changed, same, small_cases
from tests.test_going import TANGLED

RUNGS = ((2, 'use'), (3, 'twice'), (5, 'use'))
END, STOP = (('end',),), (('stop',),)


class Examples(Case):

    def test_of_the_document(self):
        self.told(False, lets_going, TEXT, (2,), ALL, ('stays', RUNGS))
        self.told(True, lets_going, TEXT, (2, 4), ALL, going_paper(TEXT, (2, 4), ALL))
        self.refused(InvalidPaper, ('part', -1), lets_going, TEXT, (2,), ALL, ('stays', RUNGS[:2]))
        self.refused(InvalidPaper, ('here', (2, 'use')), lets_going, TEXT, (2,), RUNGS[:1], ('goes', ((2, (('stop',),)),)))


class Papers(Case):

    def right(self, text, carets, some):
        paper = going_paper(text, carets, some)
        self.assertIs(type(paper), tuple)
        self.assertIsNone(paperoracle.going_fault(text, carets, some, paper), (text, carets, some, paper))
        self.told(paper[0] == 'goes', lets_going, text, carets, some, paper)
        self.assertEqual(paper[0] == 'goes', can_go(text, carets, some))
        if paper[0] == 'goes':
            self.assertLessEqual(sum(len(rows) for _, rows in paper[1]), 2 * len(text) + 4 * len(carets))

    def test_of_many_sets(self):
        for text, carets, some in small_cases(200, 9, seed=40):
            self.right(text, carets, some)

    def test_of_great_sets(self):
        for text in TANGLED:
            for carets in ((), (0,), (len(text) // 2,), tuple(range(len(text) + 1)), (3, 7, 12)):
                self.right(text, carets, sure_ones(text, ()))
                self.right(text, carets, ())

    def test_by_name(self):
        paper = going_paper(some=RUNGS, carets=(2,), text=TEXT)
        self.told(('stays', RUNGS), lambda: paper)
        self.told(False, lets_going, thing=paper, some=ALL, carets=(2,), text=TEXT)


class Shapes(Case):

    def test_any_value(self):
        for thing in (*ODD, ('goes',), ('goes', (), ()), ['goes', ()], ('goes', None), ('stays', None), ('went', ()), ('goes', ALL),
                      ('stays', ((2, END),)), ('stays', ALL[::-1]), ('stays', list(ALL)), ('stays', (ALL[0], ALL[0])), ('stays', ((True, 'use'),)),
                      ('stays', ((2, 'uses'),)), ('stays', ALL[0]), (('goes',), ()), ('goes', ((0, ()),)), ('goes', ((2, END), (0, END))),
                      ('goes', [(0, END)]), ('goes', ((True, END),)), ('goes', ((-1, END),)), ('goes', ((2, END), (2, END))),
                      ('goes', ((2, (('end', ''),)),)), ('goes', ((2, END, 0),)), ('stays', ((2, 'use', 0),)), ('stays', ((-2, 'use'),))):
            self.refused(InvalidPaper, ('shape', -1), lets_going, TEXT, (2,), ALL, thing)

    def test_shapes_come_first(self):
        self.refused(InvalidPaper, ('shape', -1), lets_going, TEXT, (2,), ALL, ('goes', ((0, END), (1, ()))))
        self.refused(InvalidPaper, ('shape', -1), lets_going, TEXT, (2,), ALL, ('stays', ((0, 'use'), (1, 'x'))))


class Goes(Case):

    def test_gaps_that_are_no_carets(self):
        for way, gap in ((((0, END), (2, END), (3, END)), 0), (((2, END), (3, END), (4, END)), 3), (((10 ** 59, END),), 10 ** 59), (((7, END),), 7)):
            self.refused(InvalidPaper, ('caret', gap), lets_going, TEXT, (2,), ALL, ('goes', way))
        self.refused(InvalidPaper, ('caret', 2), lets_going, TEXT, (), (), ('goes', ((2, END),)))

    def test_complaints_that_are_still_there(self):
        way = ((2, (('let', 'x', 'text'),)),)
        self.told(True, lets_going, TEXT, (2,), ((2, 'use'),), ('goes', way))
        self.refused(InvalidPaper, ('here', (0, 'falls')), lets_going, TEXT, (2,), ALL, ('goes', way))
        self.refused(InvalidPaper, ('here', (3, 'twice')), lets_going, TEXT, (2,), ((2, 'use'), (3, 'twice')), ('goes', way))
        self.told(True, lets_going, TEXT, (2,), (), ('goes', way))
        self.told(True, lets_going, TEXT, (), (), ('goes', ()))
        self.refused(InvalidPaper, ('here', (2, 'use')), lets_going, TEXT, (2,), ((2, 'use'),), ('goes', ()))

    def test_ways_of_more_rows_than_can_be_passed(self):
        way = ((0, (('open', 'if'),) * 300), (5, (('open', 'loop'),) * 300 + (('let', 'x', 'num'),)))
        self.told(True, lets_going, TEXT, (0, 5), ((5, 'use'),), ('goes', way))
        self.refused(InvalidPaper, ('here', (0, 'falls')), lets_going, TEXT, (0, 5), ALL, ('goes', way))


class Stays(Case):

    def test_pairs_that_are_not_of_the_set(self):
        self.refused(InvalidPaper, ('some', (2, 'use')), lets_going, TEXT, (2,), ALL[:1], ('stays', RUNGS))
        self.refused(InvalidPaper, ('some', (5, 'use')), lets_going, TEXT, (2,), ALL[:4], ('stays', RUNGS))
        self.refused(InvalidPaper, ('some', (1, 'unused')), lets_going, TEXT, (2,), ALL, ('stays', ((1, 'unused'), (2, 'twice'))))
        self.refused(InvalidPaper, ('some', (10 ** 59, 'use')), lets_going, TEXT, (2,), ALL, ('stays', ((10 ** 59, 'use'),)))

    def test_parts_that_show_nothing(self):
        for part in ((), RUNGS[1:], ALL, ((0, 'falls'),), ((3, 'twice'), (3, 'unused')), ((2, 'use'), (3, 'twice'), (3, 'unused'), (5, 'use'))):
            self.refused(InvalidPaper, ('part', -1), lets_going, TEXT, (2,), ALL, ('stays', part))
        self.refused(InvalidPaper, ('part', -1), lets_going, TEXT, (2, 4), ALL, ('stays', RUNGS))
        self.told(False, lets_going, TEXT, (2,), ALL, ('stays', ((3, 'unused'),)))
        self.refused(InvalidPaper, ('part', -1), lets_going, TEXT, (), ALL, ('stays', ALL[:2]))
        for one in ALL:
            self.told(False, lets_going, TEXT, (), ALL, ('stays', (one,)))


class Changed(Case):

    def judged(self, text, carets, some, paper):
        fault = paperoracle.going_fault(text, carets, some, paper)
        if fault:
            self.refused(InvalidPaper, fault, lets_going, text, carets, some, paper)
        else:
            self.told(paper[0] == 'goes', lets_going, text, carets, some, paper)
        return fault[0] if fault else 'right'

    def test_papers_with_changes(self):
        chance = random.Random(41)
        seen = {}
        for text, carets, some in small_cases(130, 9, seed=42):
            for _ in range(20):
                fault = self.judged(text, carets, some, changed(chance, going_paper(text, carets, some)))
                seen[fault] = seen.get(fault, 0) + 1
        self.assertEqual(sorted(seen), ['caret', 'here', 'part', 'right', 'shape', 'some'])
        self.assertGreater(min(seen.values()), 3)

    def test_papers_of_other_sets_and_other_carets(self):
        cases = list(small_cases(80, 9, seed=43))
        for (text, carets, some), (_, others, _) in zip(cases, cases[1:]):
            paper = going_paper(text, carets, some)
            self.judged(text, carets, some[1:], paper)
            self.judged(text, carets[1:], some, paper)
            self.judged(text, tuple(gap for gap in others if gap <= len(text)), some, paper)

    def test_every_ladder_and_every_sure_one_is_a_paper(self):
        for text, carets, some in small_cases(40, 9, seed=44):
            for ladder in list(ladders_of(text, carets, some))[:9]:
                self.assertTrue(is_ladder(text, carets, ladder))
                self.told(False, lets_going, text, carets, some, ('stays', ladder))
            for one in some:
                if is_sure(text, carets, one):
                    self.told(False, lets_going, text, carets, some, ('stays', (one,)))
                else:
                    self.told(True, lets_going, text, carets, (one,), ('goes', taking_away(text, carets, one)))

    def test_papers_are_not_changed(self):
        paper = going_paper(TEXT, (2, 4), ALL)
        self.assertTrue(same(paper, ('goes', going_way(TEXT, (2, 4), ALL))))


class Wrong(Case):

    def test_what_is_not_usable(self):
        self.unusable(going_paper, text=TEXT, carets=(2, 4), some=ALL)
        self.unusable(lets_going, text=TEXT, carets=(2, 4), some=ALL, thing=('goes', None))
