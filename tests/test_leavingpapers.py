"""Points 48 and 49, with points 8, 9 and 10: papers of what stays, and their checker."""

import random
import time

from surelywrong.complaining import complaints_of
from surelywrong.errors import InvalidPaper
from surelywrong.leaving import fewest_left, filled_up, most_gone
from surelywrong.leavingchecker import lets_leaving
from surelywrong.leavingpapers import leaving_paper
from tests import oracle, paperoracle
from tests.helper import ALL, BAD_SOMES, Case, ODD, TEXT, changed, same, small_cases
from tests.test_going import TANGLED

WALK = (2, ('name', 'x'), ((('num', 1), ('text', 0)), (('num', 1), ('text', 1))))
PART = ((0, 'falls'), (2, 'use'), (3, 'twice'))
END, STOP, LET = ('end',), ('stop',), ('let', 'x', 'a')
# At gaps 0 and 6: gives and uses of two names, with an end row last in the first segment.
MANY = (('give', 'a'), ('use', 'x', 'a'), ('use', 'y', 'a'), STOP, ('use', 'y', 'b'), END,
        ('give', ''), ('use', 'x', 'b'), ('use', 'x', 'a'), ('use', 'x', 'b'), END, ('give', 'c'), STOP)
SOME = tuple(one for one in complaints_of(MANY) if one[1] in ('use', 'give', 'stop'))


class Examples(Case):

    def test_of_the_document(self):
        self.told(2, lets_leaving, TEXT, (2,), ALL, ('left', PART, (WALK,)))
        self.refused(InvalidPaper, ('sum', -1), lets_leaving, TEXT, (2,), ALL, ('left', PART[:2], (WALK,)))


class Papers(Case):

    def right(self, text, carets, some):
        paper = leaving_paper(text, carets, some)
        self.assertEqual([type(paper), len(paper), paper[0]], [tuple, 3, 'left'])
        self.told(fewest_left(text, carets, some), lets_leaving, text, carets, some, paper)
        self.assertEqual(len(paper[1]), len(most_gone(text, carets, some)))
        return paper

    def test_of_many_sets(self):
        walks = 0
        for text, carets, some in small_cases(200, 9, seed=53):
            paper = self.right(text, carets, some)
            ladders = oracle.ladders(text, carets, some)
            self.assertIsNone(paperoracle.leaving_fault(text, carets, some, paper, ladders), (text, carets, some, paper))
            walks += len(paper[2])
        self.assertGreater(walks, 100)

    def test_of_great_sets(self):
        for text in TANGLED:
            for carets in ((), (0,), (len(text) // 2,), tuple(range(len(text) + 1)), (3, 7, 12)):
                start = time.perf_counter()
                self.right(text, carets, complaints_of(text))
                self.right(text, carets, ())
                self.assertLess(time.perf_counter() - start, 4)

    def test_by_name(self):
        paper = leaving_paper(some=ALL, carets=(2,), text=TEXT)
        self.told(2, lets_leaving, thing=paper, some=ALL, carets=(2,), text=TEXT)


class Shapes(Case):

    def test_any_value(self):
        for thing in (*ODD, ('left', PART), ('left', PART, (WALK,), ()), ['left', PART, (WALK,)], ('leave', PART, (WALK,)), (('left',), PART, ()),
                      ('left', list(PART), (WALK,)), ('left', PART, [WALK]), ('left', PART, WALK), ('left', PART, (WALK[:2],)),
                      ('left', PART, (WALK, list(WALK))), ('left', PART, ((*WALK, 0),)), ('left', None, (WALK,)), ('left', PART, None)):
            self.refused(InvalidPaper, ('shape', -1), lets_leaving, TEXT, (2,), ALL, thing)

    def test_shapes_come_first(self):
        self.refused(InvalidPaper, ('shape', -1), lets_leaving, TEXT, (2,), ALL, ('left', ALL, (WALK, ())))


class Parts(Case):

    def test_parts_that_are_no_sets_or_cannot_go(self):
        things = [thing for thing in (*ODD, *BAD_SOMES) if type(thing) is tuple and thing != ()]
        for part in (*things, ALL, ((3, 'unused'),), PART[::-1], (PART[0], PART[0]), ((False, 'falls'),), ((1, 'unused'),), (None,), (*PART, (5, 'use'))):
            self.refused(InvalidPaper, ('part', -1), lets_leaving, TEXT, (2,), ALL, ('left', part, (WALK,)))
            self.refused(InvalidPaper, ('part', -1), lets_leaving, TEXT, (2,), ALL, ('left', part, ((None, None, None),)))
        self.refused(InvalidPaper, ('part', -1), lets_leaving, TEXT, (2,), ALL[1:], ('left', PART, (WALK,)))
        self.refused(InvalidPaper, ('part', -1), lets_leaving, TEXT, (), ALL, ('left', PART, ()))


class Walks(Case):

    def wrong(self, word, at, *walks, text=TEXT, carets=(2,), some=ALL, part=PART):
        self.refused(InvalidPaper, (word, at), lets_leaving, text, carets, some, ('left', part, walks))

    def test_carets(self):
        for caret in (*[thing for thing in ODD if thing != 2], 3, 6, (2,), '2'):
            self.wrong('walk', 0, (caret, *WALK[1:]))
        self.wrong('walk', 0, (2, *WALK[1:]), carets=(1,), part=())
        give = (1, ('fun',), ((('a', 0),),))
        for caret, right in ((True, False), (1, True)):
            thing = ('left', ((1, 'give'),), ((caret, *give[1:]),))
            if right:
                self.told(0, lets_leaving, (LET, ('give', 'a')), (1,), ((1, 'give'),), thing)
            else:
                self.refused(InvalidPaper, ('walk', 0), lets_leaving, (LET, ('give', 'a')), (1,), ((1, 'give'),), thing)

    def test_subjects(self):
        for subject in (*ODD, ['name', 'x'], ('name',), ('name', ''), ('name', 'X'), ('name', 'x', 'y'), ('names', 'x'), ('name', ['x']),
                        ['fun'], ('fun', ''), ('func',), (['fun'],), 'fun', ('name', True), (None, 'x')):
            self.wrong('walk', 0, (2, subject, WALK[2]))

    def test_subjects_without_a_choice(self):
        for subject in (('name', 'y'), ('fun',)):
            self.wrong('walk', 0, (2, subject, WALK[2]))
        # The uses are not of some, or are sure.
        self.wrong('walk', 0, WALK, some=((0, 'falls'), (3, 'twice')), part=())
        self.wrong('walk', 0, (6, *WALK[1:]), carets=(2, 6), part=())
        self.wrong('walk', 0, (0, *WALK[1:]), carets=(0,), some=ALL[:4], part=())

    def test_order(self):
        number = ((('num', 0), ('text', 0)),) * 2
        zero = (2, ('name', 'x'), number)
        self.wrong('walk', 1, zero, zero)
        self.wrong('walk', 2, *self.walks()[:2], self.walks()[0], text=MANY, carets=(0, 6), some=SOME, part=())
        one, two, three, four, five = self.walks()
        for order in ((two, one), (three, two), (four, three), (five, four), (five, one)):
            self.wrong('walk', 1, *order, text=MANY, carets=(0, 6), some=SOME, part=())

    def walks(self):
        """All walks of MANY at gaps 0 and 6, each one with numbers that are not too great."""
        zero = [(0, ('fun',), 'a', 1), (0, ('name', 'x'), 'a', 1), (0, ('name', 'y'), 'ab', 1), (6, ('fun',), ('', 'c'), 2), (6, ('name', 'x'), 'ab', 2)]
        return [(caret, subject, ((*[(kind, 0) for kind in kinds],),) * layers) for caret, subject, kinds, layers in zero]

    def test_all_walks_of_a_text(self):
        part = tuple(one for one in SOME if one not in ((4, 'use'), (8, 'use')))
        self.told(2, fewest_left, MANY, (0, 6), SOME)
        self.wrong('sum', -1, *self.walks(), text=MANY, carets=(0, 6), some=SOME, part=part)
        walks = self.walks()
        walks[2] = (0, ('name', 'y'), ((('a', 1), ('b', 1)),))
        walks[4] = (6, ('name', 'x'), ((('a', 2), ('b', 1)), (('a', 1), ('b', 1))))
        self.told(2, lets_leaving, MANY, (0, 6), SOME, ('left', part, tuple(walks)))
        self.told(2, lets_leaving, MANY, (0, 6), SOME, ('left', part, (walks[2], walks[4])))
        self.wrong('sum', -1, walks[2], text=MANY, carets=(0, 6), some=SOME, part=part)

    def test_layers(self):
        low, high = WALK[2]
        for layers in (*ODD, (low,), (low, high, high), [low, high], (low, list(high)), (low, high[:1]), (low, high[::-1]), (low, (*high, ('x', 0))),
                       (low, (('num', 1), ['text', 1])), (low, (('num', 1), ('text', 1, 0))), (low, (('num', True), ('text', 1))),
                       (low, (('num', -1), ('text', 1))), (low, (('num', 1), ('text', None))), (low, (('num', 1), ('bool', 1))), (low, ()),
                       (low, (('num', 1), (['text'], 1))), (low, (('num', 1), ('num', 1), ('text', 1))), (low, None)):
            self.wrong('layers', 0, (*WALK[:2], layers))

    def test_an_end_row_that_is_the_last_one_of_the_segment(self):
        some = ((0, 'give'), (1, 'give'))
        text = (('give', 'a'), ('give', 'b'), END)
        pairs = (('a', 1), ('b', 1))
        self.told(1, lets_leaving, text, (0,), some, ('left', some[:1], ((0, ('fun',), (pairs,)),)))
        self.wrong('layers', 0, (0, ('fun',), (pairs, pairs)), text=text, carets=(0,), some=some, part=some[:1])

    def test_numbers(self):
        low, high = (('num', 1), ('text', 0)), (('num', 1), ('text', 1))
        self.wrong('number', (0, 0), (*WALK[:2], ((('num', 2), ('text', 0)), high)))
        self.wrong('number', (0, 0), (*WALK[:2], ((('num', 1), ('text', 1)), high)))
        self.wrong('number', (0, 0), (*WALK[:2], ((('num', 9), ('text', 0)), (('num', 9), ('text', 9)))))
        self.wrong('number', (0, 1), (*WALK[:2], (low, (('num', 2), ('text', 1)))))
        self.wrong('number', (0, 1), (*WALK[:2], (low, (('num', 1), ('text', 2)))))
        # What a layer may have goes by what is told of the one before.
        self.wrong('number', (0, 1), (*WALK[:2], ((('num', 0), ('text', 0)), high)))
        self.wrong('sum', -1, (*WALK[:2], (low, (('num', 0), ('text', 1)))))
        self.wrong('number', (0, 1), (*WALK[:2], (low, (('num', 10 ** 59), ('text', 1)))))

    def test_each_walk_as_a_whole(self):
        walks = self.walks()
        late = (6, ('name', 'x'), (walks[4][2][0], (('a', 9), ('b', 9))))
        self.wrong('number', (1, 1), walks[0], late, (6, ('name', 'x'), None), text=MANY, carets=(0, 6), some=SOME, part=())
        self.wrong('layers', 1, walks[0], (*walks[1][:2], ()), (None, None, None), text=MANY, carets=(0, 6), some=SOME, part=())
        self.wrong('walk', 1, walks[0], (0, ('name', 'z'), ()), (*walks[2][:2], ()), text=MANY, carets=(0, 6), some=SOME, part=())


class Sums(Case):

    def test_too_few(self):
        self.refused(InvalidPaper, ('sum', -1), lets_leaving, TEXT, (2,), ALL, ('left', PART, ()))
        self.refused(InvalidPaper, ('sum', -1), lets_leaving, TEXT, (2,), ALL, ('left', (), (WALK,)))
        self.told(5, lets_leaving, TEXT, (), ALL, ('left', (), ()))
        self.told(0, lets_leaving, TEXT, (2, 4), ALL, ('left', ALL, ()))
        self.refused(InvalidPaper, ('sum', -1), lets_leaving, TEXT, (2, 4), ALL, ('left', ALL[1:], ()))

    def test_full_sets_are_not_enough(self):
        for text, carets, some in small_cases(80, 9, seed=54):
            _, _, walks = leaving_paper(text, carets, some)
            full = filled_up(text, carets, some, ())
            if len(full) == len(most_gone(text, carets, some)):
                self.told(len(some) - len(full), lets_leaving, text, carets, some, ('left', full, walks))
            else:
                self.refused(InvalidPaper, ('sum', -1), lets_leaving, text, carets, some, ('left', full, walks))


class Changed(Case):

    def judged(self, text, carets, some, paper):
        fault = paperoracle.leaving_fault(text, carets, some, paper, oracle.ladders(text, carets, some))
        if fault:
            self.refused(InvalidPaper, fault, lets_leaving, text, carets, some, paper)
        else:
            self.told(fewest_left(text, carets, some), lets_leaving, text, carets, some, paper)
        return fault[0] if fault else 'right'

    def test_papers_with_changes(self):
        chance = random.Random(55)
        seen = {}
        for text, carets, some in small_cases(130, 8, seed=56):
            word, part, walks = leaving_paper(text, carets, some)
            papers = [changed(chance, (word, part, walks)) for _ in range(4)]
            papers += [(word, part, changed(chance, walks)) for _ in range(12 if walks else 1)]
            for paper in papers:
                fault = self.judged(text, carets, some, paper)
                seen[fault] = seen.get(fault, 0) + 1
        self.assertEqual(sorted(seen), ['layers', 'number', 'part', 'right', 'shape', 'sum', 'walk'])
        self.assertGreater(min(seen.values()), 10)

    def test_papers_of_other_sets_and_other_carets(self):
        cases = list(small_cases(80, 8, seed=57))
        for (text, carets, some), (_, others, _) in zip(cases, cases[1:]):
            paper = leaving_paper(text, carets, some)
            self.judged(text, carets, some[1:], paper)
            self.judged(text, carets[1:], some, paper)
            self.judged(text, tuple(gap for gap in others if gap <= len(text)), some, paper)

    def test_papers_are_not_changed(self):
        paper = leaving_paper(TEXT, (2,), ALL)
        lets_leaving(TEXT, (2,), ALL, paper)
        self.assertTrue(same(paper, leaving_paper(TEXT, (2,), ALL)))


class Wrong(Case):

    def test_what_is_not_usable(self):
        self.unusable(leaving_paper, text=TEXT, carets=(2, 4), some=ALL)
        self.unusable(lets_leaving, text=TEXT, carets=(2, 4), some=ALL, thing=('left', None, ()))
