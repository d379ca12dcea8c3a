"""Points 46 and 47, with points 7, 8, 9 (S1, S2, S4) and 10, and point 50: the fewest that stay."""

import random
import time

from surelywrong.complaining import complaints_of
from surelywrong.errors import NotUsable
from surelywrong.going import can_go, going_way
from surelywrong.growing import gone_by
from surelywrong.leaving import fewest_left, filled_up, is_full, most_gone
from surelywrong.sureness import held_ones
from tests import oracle
from tests.helper import ALL, BAD_SOMES, Case, ODD, OTHER_SOMES, TEXT, small_cases, some_carets, some_texts
from tests.test_going import TANGLED

END, STOP, LET, IF = ('end',), ('stop',), ('let', 'x', 'a'), ('open', 'if')
THREE = (('use', 'x', 'a'), ('use', 'x', 'b'), ('use', 'x', 'b'))


class Examples(Case):

    def test_of_the_document(self):
        self.assertEqual([fewest_left(TEXT, (2,), ALL), len(most_gone(TEXT, (2,), ALL)), fewest_left(TEXT, (2, 4), ALL),
                          fewest_left(TEXT, (), ALL)], [2, 3, 0, 5])
        self.told(True, is_full, TEXT, (2,), ALL, ((0, 'falls'), (2, 'use'), (3, 'twice')))
        self.told(False, is_full, TEXT, (2,), ALL, ((2, 'use'),))
        self.told(((0, 'falls'), (2, 'use'), (5, 'use')), filled_up, TEXT, (2,), ALL, ((5, 'use'),))

    def test_a_full_set_that_is_not_greatest(self):
        some = tuple((row, 'use') for row in range(3))
        self.assertEqual(complaints_of(THREE), some)
        self.told(True, is_full, THREE, (0,), some, some[:1])
        self.told(some[1:], most_gone, THREE, (0,), some)
        self.told(1, fewest_left, THREE, (0,), some)


class Fewest(Case):

    def left(self, text, carets, some, expected):
        self.told(expected, fewest_left, text, carets, some)
        most = most_gone(text, carets, some)
        self.assertIs(type(most), tuple)
        self.assertEqual([len(most), list(most)], [len(some) - expected, sorted(set(most) & set(some))])
        self.assertTrue(can_go(text, carets, most))

    def test_none_and_all(self):
        self.left(TEXT, (2,), (), 0)
        self.left((), (0,), (), 0)
        for text in (*TANGLED, *some_texts(40, 20, seed=45)):
            self.left(text, (), complaints_of(text), len(complaints_of(text)))
            self.left(text, tuple(range(len(text) + 1)), complaints_of(text), 0)

    def test_a_change_is_dear_or_cheap(self):
        give = ('give', 'a')
        text = (give, give, give, STOP, END, *[('give', 'b')] * 3)
        some = tuple(one for one in complaints_of(text) if one[1] in ('give', 'stop'))
        self.left(text, (0,), some, 1)
        text = (give, *[STOP] * 5, END, *[('give', 'b')] * 3)
        some = tuple(one for one in complaints_of(text) if one[1] in ('give', 'stop'))
        self.left(text, (0,), some, 1)
        text = (give, give, give, *[STOP] * 2, END, *[('give', 'b')] * 3)
        some = tuple(one for one in complaints_of(text) if one[1] in ('give', 'stop'))
        self.left(text, (0,), some, 2)

    def test_a_kind_that_is_seen_through_several_layers(self):
        # To change to b for the middle layer alone costs two links, to leave its use only one complaint.
        text = (LET, IF, LET, IF, LET, ('use', 'x', 'c'), LET, END, ('use', 'x', 'b'), LET, END, ('use', 'x', 'c'))
        some = tuple(one for one in complaints_of(text) if one[1] in ('use', 'twice'))
        self.left(text, (5,), some, 1)
        self.told(tuple(one for one in some if one != (8, 'use')), most_gone, text, (5,), some)

    def test_segments_and_subjects_are_counted_each(self):
        text = THREE + (('use', 'y', 'a'), ('use', 'y', 'b'), ('give', 'a'), ('give', ''))
        text = text + (('use', 'x', 'a'), ('use', 'x', 'a'), ('use', 'x', 'b'))
        some = tuple(one for one in complaints_of(text) if one[1] in ('use', 'give'))
        self.left(text, (0,), some, 5)
        self.left(text, (0, 7), some, 4)
        self.left(text, (7,), some, 8)

    def test_against_all_parts(self):
        for text, carets, some in small_cases(220, 8, seed=46):
            known = oracle.ladders(text, carets, some)
            most = max(len(part) for part in oracle.parts(some) if oracle.goes(text, carets, part, known))
            self.left(text, carets, some, len(some) - most)

    def test_by_name(self):
        self.told(2, fewest_left, some=ALL, carets=(2,), text=TEXT)
        self.told((), most_gone, text=TEXT, carets=(), some=ALL)
        self.told(True, is_full, part=(), some=ALL, carets=(), text=TEXT)
        self.told((), filled_up, text=TEXT, carets=(), some=ALL, part=())

    def test_within_few_seconds(self):
        kinds = 'abcdefghijklmnopqrst'
        texts = (TANGLED[4], TANGLED[5], tuple(row for kind in kinds for row in (('give', kind), STOP, END)),
                 (*[row for _ in range(12) for row in (LET, IF)], *[row for kind in kinds[1:13] for row in (('use', 'x', kind), LET, END)]),
                 (STOP, *[LET] * 59), tuple(('use', 'x', kinds[k % 20]) for k in range(60)))
        for text in texts:
            for carets in ((0,), (24,), tuple(range(len(text) + 1)), (10, 30, 50)):
                for call in (fewest_left, most_gone, lambda *args: filled_up(*args, ()), lambda *args: is_full(*args, ())):
                    start = time.perf_counter()
                    call(text, carets, complaints_of(text))
                    self.assertLess(time.perf_counter() - start, 4)


class Full(Case):

    def test_against_all_parts(self):
        for text, carets, some in small_cases(80, 6, seed=47):
            known = oracle.ladders(text, carets, some)
            for part in oracle.parts(some):
                goes = oracle.goes(text, carets, part, known)
                more = [one for one in some if one not in part and oracle.goes(text, carets, (*part, one), known)]
                self.told(goes and not more, is_full, text, carets, some, part)
                if goes:
                    filled = part
                    for one in some:
                        if one not in filled and oracle.goes(text, carets, (*filled, one), known):
                            filled = tuple(sorted([*filled, one]))
                    self.told(filled, filled_up, text, carets, some, part)
                    self.told(True, is_full, text, carets, some, filled)
                else:
                    self.refused(NotUsable, ('part', -1), filled_up, text, carets, some, part)

    def test_sets_that_are_none_of_some(self):
        parts = [thing for thing in (*ODD, *BAD_SOMES) if thing != ()] + [thing for thing, _ in OTHER_SOMES]
        for part in (*parts, ((0, 'falls'), (False, 'use')), [ALL[0]], ((2, 'use'), (0, 'falls')), (ALL[0], ALL[0]), ((0, 'falls'), None)):
            self.told(False, is_full, TEXT, (2,), ALL, part)
            self.refused(NotUsable, ('part', -1), filled_up, TEXT, (2,), ALL, part)
        # A complaint of the text, but not of some.
        self.told(False, is_full, TEXT, (2,), ALL[1:], ((0, 'falls'), (2, 'use'), (3, 'twice')))
        self.refused(NotUsable, ('part', -1), filled_up, TEXT, (2,), ALL[1:], ALL[:1])

    def test_sets_that_cannot_go(self):
        for part in (((3, 'unused'),), ((2, 'use'), (3, 'twice'), (5, 'use')), ALL):
            self.told(False, is_full, TEXT, (2,), ALL, part)
            self.refused(NotUsable, ('part', -1), filled_up, TEXT, (2,), ALL, part)


class WhatFollows(Case):

    def test_numbers(self):
        chance = random.Random(48)
        for text, carets, some in small_cases(120, 9, seed=49):
            fewest = fewest_left(text, carets, some)
            self.assertEqual(fewest == 0, can_go(text, carets, some))
            for one in some:
                less = tuple(other for other in some if other != one)
                self.assertIn(fewest - fewest_left(text, carets, less), (0, 1))
            more = tuple(sorted({*carets, *some_carets(chance, text)}))
            self.assertLessEqual(fewest_left(text, more, some), fewest)
            gone = gone_by(text, going_way(text, carets, most_gone(text, carets, some)))
            self.assertEqual(len([one for one in some if one not in gone]), fewest)

    def test_greatest_sets_are_full(self):
        for text, carets, some in small_cases(120, 12, seed=50):
            self.told(True, is_full, text, carets, some, most_gone(text, carets, some))
            self.told(True, is_full, text, carets, some, filled_up(text, carets, some, ()))

    def test_sets_in_no_common_segment(self):
        for text, carets, some in small_cases(120, 9, seed=51):
            for caret in carets:
                ahead, behind = [tuple(one for one in some if (one[0] < caret) == first) for first in (True, False)]
                both = fewest_left(text, carets, ahead) + fewest_left(text, carets, behind)
                self.told(both, fewest_left, text, carets, some)

    def test_what_is_sure_stays(self):
        for text, carets, some in small_cases(80, 9, seed=52):
            held = tuple(one for one in some if one in held_ones(text, carets))
            self.told(fewest_left(text, carets, held) + len(some) - len(held), fewest_left, text, carets, some)


class Wrong(Case):

    def test_what_is_not_usable(self):
        for call in (fewest_left, most_gone):
            self.unusable(call, text=TEXT, carets=(2, 4), some=ALL)
        for call in (is_full, filled_up):
            self.unusable(call, text=TEXT, carets=(2, 4), some=ALL, part=ALL)
