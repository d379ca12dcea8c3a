"""Points 20 and 21, with points 2, 10, 16 and 17: sets of gaps as objects."""

import operator
import random

from surelywrong.errors import InvalidText, NotUsable
from surelywrong.gapsets import Gaps
from surelywrong.texts import Text
from tests.helper import Case, TEXT, some_texts
from tests.test_texts import THINGS

SIGNS = (operator.or_, operator.and_, operator.sub, operator.xor)
CHANGING = (operator.ior, operator.iand, operator.isub)


def some_gaps(many=40):
    chance = random.Random(11)
    return [[chance.randint(0, 9) for _ in range(chance.randint(0, 6))] for _ in range(many)]


def as_set(gaps):
    return tuple(sorted(set(gaps)))


class Examples(Case):

    def test_of_the_document(self):
        self.told((0, 2, 5), lambda: (Gaps(5, 2) | Gaps(2, 0)).members)
        self.told('-', str, Gaps())
        self.told(False, operator.contains, Gaps(1), True)
        self.told(True, Gaps(2, 6).lies_in, Gaps.all_of(TEXT))


class Making(Case):

    def test_members(self):
        self.told((), lambda: Gaps().members)
        self.told((0, 10 ** 59), lambda: Gaps(10 ** 59, 0, 0).members)
        for gaps in some_gaps():
            self.told(as_set(gaps), lambda *gaps: Gaps(*gaps).members, *gaps)

    def test_no_numbers(self):
        for thing in THINGS:
            if type(thing) is not int or thing < 0:
                self.refused(NotUsable, ('gaps', 0), Gaps, thing)
                self.refused(NotUsable, ('gaps', 2), Gaps, 5, 0, thing, thing, 1)
        self.refused(NotUsable, ('gaps', 0), Gaps, (0, 1))

    def test_all_of(self):
        self.told((0,), lambda: Gaps.all_of(()).members)
        for text in some_texts(10, 60):
            self.told(tuple(range(len(text) + 1)), lambda text: Gaps.all_of(text=text).members, text)
        for thing in (*THINGS, Text(TEXT)):
            if type(thing) is not tuple:
                self.refused(NotUsable, ('text', -1), Gaps.all_of, thing)
        self.refused(NotUsable, ('text', 1), Gaps.all_of, (('end',), Text()))

    def test_read(self):
        for gaps in some_gaps():
            made = Gaps(*gaps)
            read = Gaps.read(str(made))
            self.assertIs(type(read), Gaps)
            self.told(made.members, lambda: read.members)
        self.told((0, 12), lambda: Gaps.read(words='0 12').members)
        for thing in THINGS:
            if type(thing) is not str:
                self.refused(NotUsable, ('words', -1), Gaps.read, thing)
        self.refused(InvalidText, (0, 1), Gaps.read, '5 5')
        self.refused(InvalidText, (0, 0), Gaps.read, '')

    def test_methods_stand_in_the_class(self):
        own = vars(Gaps)
        self.assertLessEqual({'members', 'lies_in', 'all_of', 'read', '__or__', '__and__', '__sub__', '__xor__', '__ior__', '__iand__',
                              '__isub__', '__contains__', '__len__', '__bool__', '__iter__', '__eq__', '__str__'}, set(own))
        self.assertIsInstance(own['members'], property)
        self.assertIsInstance(own['all_of'], classmethod)
        self.assertIsInstance(own['read'], classmethod)


class Using(Case):

    def test_signs(self):
        for one in some_gaps():
            for other in some_gaps(12):
                for sign in SIGNS:
                    left, right = Gaps(*one), Gaps(*other)
                    made = sign(left, right)
                    self.assertIs(type(made), Gaps)
                    self.told(as_set(sign(set(one), set(other))), lambda: made.members)
                    self.told((as_set(one), as_set(other)), lambda: (left.members, right.members))
                self.told(set(one) <= set(other), Gaps(*one).lies_in, other=Gaps(*other))

    def test_the_sign_for_just_one(self):
        for one in some_gaps():
            for other in some_gaps(12):
                left, right = Gaps(*one), Gaps(*other)
                self.told(True, operator.eq, left ^ right, (left | right) - (left & right))

    def test_changing_signs(self):
        for one in some_gaps():
            for other in some_gaps(12):
                for sign in CHANGING:
                    left, right = Gaps(*one), Gaps(*other)
                    before, union = left.members, left | right
                    self.assertIs(sign(left, right), left)
                    self.told(as_set(sign(set(one), set(other))), lambda: left.members)
                    self.told(as_set(other), lambda: right.members)
                    self.told((as_set(one), as_set(one + other)), lambda: (before, union.members))

    def test_with_itself(self):
        for sign, members in zip((*SIGNS, *CHANGING), ((1, 2), (1, 2), (), (), (1, 2), (1, 2), ())):
            gaps = Gaps(1, 2)
            self.told(members, lambda: sign(gaps, gaps).members)

    def test_what_is_made_does_not_change_with_it(self):
        gaps = Gaps(1, 2)
        made = [gaps | Gaps(), gaps & gaps, gaps - Gaps()]
        walk = iter(gaps)
        gaps -= Gaps(1)
        gaps |= Gaps(9)
        self.assertEqual([one.members for one in made], [(1, 2)] * 3)
        self.assertEqual(gaps.members, (2, 9))
        self.assertEqual(list(walk), [1, 2])

    def test_no_other_gaps(self):
        for thing in (*THINGS, {1}, Text()):
            if type(thing) is not Gaps:
                gaps = Gaps(0, 1)
                for sign in (*SIGNS, *CHANGING):
                    self.refused(NotUsable, ('other', -1), sign, gaps, thing)
                self.refused(NotUsable, ('other', -1), gaps.lies_in, thing)
                self.assertEqual(gaps.members, (0, 1))

    def test_in(self):
        for thing in (0, 7, 10 ** 59):
            self.told(True, operator.contains, Gaps(10 ** 59, 7, 0), thing)
        for thing in THINGS:
            self.told(type(thing) is int and 0 <= thing < 2, operator.contains, Gaps(0, 1), thing)
            self.told(False, operator.contains, Gaps(), thing)

    def test_length_truth_and_order(self):
        for gaps in some_gaps():
            made = Gaps(*gaps)
            self.told(len(set(gaps)), len, made)
            self.told(bool(gaps), bool, made)
            self.told(sorted(set(gaps)), list, made)
            self.told(as_set(gaps), lambda: tuple(gap for gap in made))
        self.told(True, bool, Gaps(0))

    def test_equal(self):
        self.told(True, operator.eq, Gaps(3, 1, 3), Gaps(1, 3))
        self.told(False, operator.ne, Gaps(3, 1, 3), Gaps(1, 3))
        self.told(False, operator.eq, Gaps(0), Gaps(1))
        for thing in (*THINGS, (0, 1), [0, 1], '0 1', {0, 1}):
            if type(thing) is not Gaps:
                self.told(False, operator.eq, Gaps(0, 1), thing)
                self.told(False, operator.eq, thing, Gaps(0, 1))
                self.told(False, operator.eq, thing, Gaps())

    def test_written(self):
        self.told('0 3 12', str, Gaps(12, 3, 0))
        self.told('0', str, Gaps(0))
        self.told('-', str, Gaps())

    def test_members_are_not_set(self):
        gaps = Gaps(1)
        with self.assertRaises(AttributeError):
            gaps.members = ()
