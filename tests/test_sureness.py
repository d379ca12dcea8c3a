"""Points 34 and 35, with points 6, 7, 9 (S1) and 10: what is sure, and ways that take a complaint away."""

import random

from surelywrong.complaining import complaints_of
from surelywrong.errors import NotUsable
from surelywrong.growing import gone_by
from surelywrong.kinds import is_way
from surelywrong.stretching import stretch_of
from surelywrong.sureness import held_ones, is_sure, sure_ones, taking_away
from surelywrong.waychecker import lets_way
from tests import oracle
from tests.helper import ALL, Case, ENDS, STRAY, TEXT, WORDS, few_row_texts, some_carets, some_texts, some_way

FUN, LOOP, IF, END, STOP = ('open', ('fun', 'a')), ('open', 'loop'), ('open', 'if'), ('end',), ('stop',)
LET, USE, GIVE = ('let', 'x', 'a'), ('use', 'x', 'a'), ('give', 'b')
# Each complaint of these is in or around nested blocks, some of which are not closed.
NESTED = (
    (LET, IF, LOOP, LET, END, FUN, LET, STOP, GIVE, USE, END, END, LET, END, ('use', 'x', 'b'), STOP, STOP, GIVE),
    (FUN, FUN, IF, IF, IF, LET), (FUN, LOOP, FUN, STOP, IF, IF, GIVE, ('give', ''), END, END, ('use', 'y', 'a'), END, END, END, END, STOP),
    (END, END, IF, END, END, ('use', 'x', 'b'), LET, END, ('use', 'x', 'a'), END, STOP, IF, GIVE),
    (LET, *[IF] * 28, LET, *[END] * 28, LET, STOP), (LET, *[IF] * 59), ((*[IF] * 20, USE, *[END] * 39)))
BOTH = (TEXT, STRAY, ENDS, *NESTED, *few_row_texts(2), *some_texts(150, 14, seed=14), *some_texts(5, 60, seed=15))


class Examples(Case):

    def test_of_the_document(self):
        self.told(((3, 'unused'),), sure_ones, TEXT, (2,))
        self.told(True, is_sure, TEXT, (), (2, 'use'))
        self.told(((0, 'falls'), (3, 'unused'), (5, 'use')), held_ones, TEXT, (4,))
        self.refused(NotUsable, ('carets', -1), is_sure, TEXT, (7,), None)
        self.told(None, taking_away, TEXT, (2,), (3, 'unused'))
        self.assertIsNotNone(taking_away(TEXT, (2,), (2, 'use')))
        self.assertIn((3, 'twice'), gone_by(TEXT, taking_away(TEXT, (2, 3), (3, 'twice'))))


class Sure(Case):

    def test_at_the_ends_of_the_stretch_and_beside(self):
        for text in BOTH:
            for complaint in complaints_of(text):
                first, last = oracle.stretch(text, *complaint)
                for caret in (first, last):
                    self.told(False, is_sure, text, (caret,), complaint)
                for caret in (first - 1, last + 1):
                    if 0 <= caret <= len(text):
                        self.told(True, is_sure, text, (caret,), complaint)
                outside = tuple(gap for gap in range(len(text) + 1) if not first <= gap <= last)
                self.told(True, is_sure, text, outside, complaint)
                self.told(False, is_sure, text, tuple(sorted([*outside, (first + last) // 2])), complaint)

    def test_all_of_a_text(self):
        chance = random.Random(16)
        for text in BOTH:
            complaints = complaints_of(text)
            for carets in ((), tuple(range(len(text) + 1)), *[some_carets(chance, text) for _ in range(3)]):
                sure = tuple(complaint for complaint in complaints if oracle.sure(text, carets, complaint))
                self.told(sure, sure_ones, text, carets)
                self.told(tuple(one for one in complaints if one not in sure), held_ones, text, carets)
            self.told(complaints, sure_ones, text, ())
            self.told(complaints, held_ones, text, tuple(range(len(text) + 1)))

    def test_by_name(self):
        self.told(True, is_sure, complaint=(3, 'unused'), carets=(2,), text=TEXT)
        self.told(ALL, sure_ones, text=TEXT, carets=())
        self.told((), held_ones, carets=(), text=TEXT)
        self.told(None, taking_away, text=TEXT, carets=(), complaint=(2, 'use'))

    def test_no_way_takes_away_what_is_sure(self):
        chance = random.Random(17)
        for text in BOTH[:150]:
            for carets in [some_carets(chance, text) for _ in range(3)]:
                sure = sure_ones(text, carets)
                for _ in range(5):
                    gone = gone_by(text, some_way(chance, carets, 6))
                    self.assertEqual([complaint for complaint in gone if complaint in sure], [])


class TakingAway(Case):

    def taken(self, text, carets, complaint):
        """The way keeps to the carets and to the number of rows, and the complaint is gone."""
        way = taking_away(text, carets, complaint)
        self.assertEqual(way is None, oracle.sure(text, carets, complaint))
        if way is not None:
            self.assertTrue(is_way(way))
            self.assertLessEqual(lets_way(text, carets, way), len(text) + 2)
            self.assertIn(complaint, gone_by(text, way), (text, carets, way))

    def test_at_each_gap_of_the_stretch(self):
        words = {}
        for text in BOTH:
            for complaint in complaints_of(text):
                first, last = stretch_of(text, complaint)
                for caret in range(first, last + 1):
                    self.taken(text, (caret,), complaint)
                words[complaint[1]] = True
        self.assertEqual(sorted(words), sorted(WORDS))

    def test_at_several_carets(self):
        chance = random.Random(18)
        for text in BOTH:
            for carets in ((), tuple(range(len(text) + 1)), *[some_carets(chance, text) for _ in range(4)]):
                for complaint in complaints_of(text):
                    self.taken(text, carets, complaint)

    def test_a_way_of_few_rows(self):
        # The fewest rows that will do: what is opened must be closed ahead of the give, and no more.
        for many in (0, 5, 58):
            text = (FUN, *[IF] * many)
            self.taken(text, (len(text),), (0, 'falls'))
        self.taken((*[END] * 30, USE), (0,), (30, 'use'))


class Wrong(Case):

    def test_what_is_not_usable(self):
        for call in (is_sure, taking_away):
            self.unusable(call, text=TEXT, carets=(2, 4), complaint=(2, 'use'))
        for call in (sure_ones, held_ones):
            self.unusable(call, text=TEXT, carets=(2, 4))
        self.refused(NotUsable, ('complaint', (3, 'stop')), is_sure, TEXT, (), (3, 'stop'))
