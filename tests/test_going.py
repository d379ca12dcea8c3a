"""Point 40, with points 6, 8, 9 (S2, S6) and 10, and points 42 to 45: sets that can go."""

import random
import time

from surelywrong.complaining import complaints_of
from surelywrong.errors import NotUsable
from surelywrong.going import can_go, going_way
from surelywrong.growing import gone_by, grown, moved
from surelywrong.kinds import is_way
from surelywrong.laddering import a_ladder, ladders_of
from surelywrong.layering import layer_of
from surelywrong.rowchanges import put_in, rekinded, renamed
from surelywrong.sureness import held_ones, is_sure, sure_ones, taking_away
from surelywrong.waychecker import lets_way
from tests import oracle
from tests.helper import (ALL, Case, ENDS, STRAY, TEXT, WORDS, few_row_texts, small_cases, some_carets, some_texts, some_way)

RUNGS = ((2, 'use'), (3, 'twice'), (5, 'use'))
FUN, LOOP, IF, END, STOP = ('open', ('fun', 'a')), ('open', 'loop'), ('open', 'if'), ('end',), ('stop',)
LET, USE, OTHER, GIVE = ('let', 'x', 'a'), ('use', 'x', 'b'), ('use', 'x', 'c'), ('give', 'b')
# Names and functions, both with links, in layers and in nested blocks; some blocks are not closed.
TANGLED = (
    (LET, FUN, LET, IF, LET, USE, GIVE, STOP, LET, END, LET, STOP, ('let', 'y', 'b'), END, OTHER, ('give', ''), END, FUN, IF, LET),
    (FUN, IF, LOOP, IF, LET, LET, END, END, USE, END, STOP, USE, END, GIVE, GIVE, END, END, LET, FUN, FUN, LET, END),
    (LET, ('let', 'y', 'a'), IF, LET, ('let', 'y', 'b'), ('use', 'y', 'c'), USE, LET, END, USE, ('use', 'y', 'c'), ('let', 'y', 'a'), END, USE),
    (STOP, LET, LET, GIVE, END, STOP, LET, LET, GIVE, FUN, LET, FUN, USE, IF, LET),
    ((FUN,) * 20 + (LET, USE) * 5 + (END,) * 25 + (GIVE, STOP, END, USE) * 2),
    ((IF, LET) * 15 + (USE, LET, STOP, GIVE, END) * 6))


class Examples(Case):

    def test_of_the_document(self):
        self.assertEqual([can_go(TEXT, (2,), ALL), can_go(TEXT, (2,), RUNGS), can_go(TEXT, (2,), RUNGS[1:]), can_go(TEXT, (2, 4), ALL),
                          can_go(TEXT, (), ())], [False, False, True, True, True])
        self.told(None, going_way, TEXT, (2,), RUNGS)
        self.told(ALL, lambda: gone_by(TEXT, going_way(TEXT, (2, 4), ALL)))
        self.told(False, can_go, text=TEXT, carets=(2,), some=ALL)
        self.told(None, going_way, some=ALL, carets=(2,), text=TEXT)


class Going(Case):

    def goes(self, text, carets, some):
        """All of the set goes, by a way at the carets with no more rows than stated."""
        self.told(True, can_go, text, carets, some)
        way = going_way(text, carets, some)
        self.assertTrue(is_way(way), way)
        self.assertLessEqual(lets_way(text, carets, way), 2 * len(text) + 4 * len(carets))
        gone, _ = oracle.changes(text, way, WORDS)
        self.assertEqual([one for one in some if one not in gone], [], (text, carets, way))

    def stays(self, text, carets, some):
        self.told(False, can_go, text, carets, some)
        self.told(None, going_way, text, carets, some)

    def test_nothing(self):
        for text in (TEXT, STRAY, ENDS, ()):
            self.goes(text, (), ())
            self.goes(text, (0,), ())
            self.goes(text, tuple(range(len(text) + 1)), ())

    def test_one_complaint_of_each_word(self):
        texts = {'use': (IF, LET, USE, END), 'unused': (IF, LET, END, IF), 'twice': (IF, LET, LET, END), 'stop': (FUN, STOP, END),
                 'give': (FUN, ('give', ''), END), 'after': (LOOP, STOP, LET, END), 'falls': (IF, FUN, IF), 'open': (IF, FUN, LET),
                 'end': (LET, END, END)}
        self.assertEqual(sorted(texts), sorted(WORDS))
        for word, text in texts.items():
            some = tuple(one for one in complaints_of(text) if one[1] == word)[:1]
            self.assertEqual(len(some), 1)
            for caret in range(len(text) + 1):
                first, last = oracle.stretch(text, *some[0])
                (self.goes if first <= caret <= last else self.stays)(text, (caret,), some)

    def test_what_is_sure_stays(self):
        for text in TANGLED:
            for one in complaints_of(text):
                first, last = oracle.stretch(text, *one)
                outside = tuple(gap for gap in range(len(text) + 1) if not first <= gap <= last)
                self.stays(text, outside, (one,))
                self.stays(text, outside, complaints_of(text))

    def test_all_at_all_gaps(self):
        for text in (*TANGLED, TEXT, ENDS, STRAY, *few_row_texts(3), *some_texts(150, 20, seed=24), *some_texts(10, 60, seed=25)):
            self.goes(text, tuple(range(len(text) + 1)), complaints_of(text))

    def test_ladders_less_one_complaint(self):
        whole = 0
        for text in TANGLED:
            for gap in range(len(text) + 1):
                held = held_ones(text, (gap,))
                for ladder in list(ladders_of(text, (gap,), held))[:6]:
                    self.stays(text, (gap,), ladder)
                    self.stays(text, (gap,), held)
                    for one in ladder:
                        self.goes(text, (gap,), tuple(other for other in ladder if other != one))
                    whole += len(ladder) > 2
        self.assertGreater(whole, 5)

    def test_full_sets_of_many_words(self):
        chance = random.Random(26)
        seen = {}
        for text in (*TANGLED, *some_texts(100, 25, seed=27), *some_texts(6, 60, seed=28)):
            for carets in (some_carets(chance, text, 1), some_carets(chance, text), some_carets(chance, text, 12)):
                some = held_ones(text, carets)
                ladder = a_ladder(text, carets, some)
                while ladder:
                    some = tuple(one for one in some if one != chance.choice(ladder))
                    ladder = a_ladder(text, carets, some)
                self.goes(text, carets, some)
                seen.update({word: True for _, word in some})
                for one in sure_ones(text, carets)[:2]:
                    self.stays(text, carets, tuple(sorted([*some, one])))
        self.assertEqual(sorted(seen), sorted(WORDS))

    def test_names_and_functions_do_not_hinder_one_another(self):
        for other in (('use', 'y', 'd'), ('give', 'a'), ('use', 'x', 'b')):
            # The link of x ties the uses of x and nothing else, the stop ties the gives.
            text = (LET, USE, ('use', 'y', 'c'), ('give', 'a'), STOP, LET, END, USE, other)
            some = tuple(one for one in complaints_of(text) if one[1] in ('use', 'twice', 'give', 'stop'))
            self.assertEqual(len(some), 7)
            self.goes(text, (1,), some)
        for other in (('use', 'x', 'c'), ('give', '')):
            text = (LET, USE, ('use', 'y', 'c'), ('give', 'a'), STOP, LET, END, USE, other)
            self.stays(text, (1,), tuple(one for one in complaints_of(text) if one[1] in ('use', 'twice', 'give', 'stop')))

    def test_within_few_seconds(self):
        for text in (TANGLED[4], TANGLED[5], *[tuple(row for k in range(15) for row in (('give', kind), LET, STOP, END)) for kind in 'ab']):
            for carets in ((0,), tuple(range(len(text) + 1)), (30,)):
                start = time.perf_counter()
                can_go(text, carets, complaints_of(text))
                going_way(text, carets, held_ones(text, carets))
                self.assertLess(time.perf_counter() - start, 4)


class Compared(Case):

    def test_with_sure_ones_and_ladders(self):
        for text, carets, some in small_cases(120, 7, seed=29):
            known = oracle.ladders(text, carets, some)
            for part in oracle.parts(some)[::3]:
                expected = oracle.goes(text, carets, part, known)
                self.told(expected, can_go, text, carets, part)
                if expected:
                    gone, _ = oracle.changes(text, going_way(text, carets, part), WORDS)
                    self.assertEqual([one for one in part if one not in gone], [])
                else:
                    self.told(None, going_way, text, carets, part)

    def test_what_goes_by_any_way_can_go(self):
        chance = random.Random(30)
        for text, carets, _ in small_cases(250, 0, seed=31):
            for _ in range(6):
                self.told(True, can_go, text, carets, gone_by(text, some_way(chance, carets, 5)))

    def test_more_carets(self):
        chance = random.Random(32)
        for text, carets, some in small_cases(120, 6, seed=33):
            more = tuple(sorted({*carets, *some_carets(chance, text)}))
            if can_go(text, carets, some):
                self.told(True, can_go, text, more, some)


class WhatFollows(Case):

    def test_one_complaint(self):
        for text, carets, _ in small_cases(100, 0, seed=34):
            for one in complaints_of(text):
                sure = is_sure(text, carets, one)
                self.told(not sure, can_go, text, carets, (one,))
                self.assertEqual(taking_away(text, carets, one) is None, sure)

    def test_other_words_can_always_go(self):
        for text, carets, _ in small_cases(150, 0, seed=35):
            rest = tuple(one for one in held_ones(text, carets) if one[1] in ('after', 'end', 'falls', 'open', 'unused'))
            self.told(True, can_go, text, carets, rest)

    def test_least_sets_that_cannot_go(self):
        for text, carets, some in small_cases(60, 7, seed=36):
            for part in oracle.parts(some):
                less = [part[:k] + part[k + 1:] for k in range(len(part))]
                least = not can_go(text, carets, part) and all(can_go(text, carets, one) for one in less)
                one_sure = len(part) == 1 and is_sure(text, carets, part[0])
                self.assertEqual(least, one_sure or (part != () and oracle.ladder_test(text, carets, part)))

    def test_exchanged_names_and_kinds(self):
        for text, carets, some in small_cases(60, 8, seed=37):
            for other in (renamed(text, ('x', 'y'), ('y', 'x')), rekinded(text, ('a', 'b'), ('b', 'c'), ('c', 'a'))):
                self.assertEqual(sure_ones(other, carets), sure_ones(text, carets))
                self.assertEqual(list(ladders_of(other, carets, some)), list(ladders_of(text, carets, some)))
                for row in range(len(text)):
                    self.assertEqual(layer_of(other, carets, row), layer_of(text, carets, row))

    def test_a_row_put_in_at_a_caret(self):
        chance = random.Random(38)
        for text, carets, _ in small_cases(150, 0, seed=39):
            for caret in carets:
                row = chance.choice((END, IF, LET, USE, STOP, GIVE))
                later = put_in(text, caret, (row,))
                self.assertEqual(later, grown(text, ((caret, (row,)),)))
                behind = tuple(gap + (gap >= caret) for gap in carets)
                for at, word in sure_ones(text, carets):
                    self.assertIn((moved(text, ((caret, (row,)),), at), word), sure_ones(later, behind))


class Wrong(Case):

    def test_what_is_not_usable(self):
        for call in (can_go, going_way):
            self.unusable(call, text=TEXT, carets=(2, 4), some=ALL)
        self.refused(NotUsable, ('complaint', (0, 'end')), can_go, (), (0,), ((0, 'end'),))
