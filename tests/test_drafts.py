"""Points 19 and 21, with points 2, 10 and 14: texts that change."""

import operator
import random

from surelywrong import rowchanges
from surelywrong.drafts import Draft
from surelywrong.errors import NotUsable
from surelywrong.kinds import is_row, is_sort
from surelywrong.texts import Text
from tests.helper import Case, SORTS, TEXT, few_row_texts, some_row, some_texts
from tests.test_texts import THINGS

STOP, END = ('stop',), ('end',)


def rows_of(draft):
    return draft.frozen().rows


def plus(draft, new):
    """draft += new, as a call."""
    draft += new
    return draft


class Examples(Case):

    def test_of_the_document(self):
        draft = Draft((('stop',), ('end',)))
        self.assertEqual([draft.insert_row(0, ('open', 'if')), draft.take_row(2), draft.wrap(0, 1, 'loop'), str(draft.frozen())],
                         [None, ('end',), None, 'open loop\nopen if\nstop\nend'])


class Making(Case):

    def test_rows(self):
        self.assertEqual([rows_of(Draft()), rows_of(Draft(())), rows_of(Draft(rows=TEXT))], [(), (), TEXT])

    def test_no_rows(self):
        for thing in THINGS:
            if type(thing) is not tuple:
                self.refused(NotUsable, ('rows', -1), Draft, thing)
            if not is_row(thing):
                self.refused(NotUsable, ('rows', 1), Draft, (STOP, thing, None))
        self.refused(NotUsable, ('rows', -1), Draft, Draft())
        self.refused(NotUsable, ('rows', -1), Draft, [STOP])

    def test_methods_stand_in_the_class(self):
        self.assertLessEqual({'insert_row', 'take_row', 'wrap', 'frozen', '__getitem__', '__setitem__', '__iadd__', '__len__', '__eq__'},
                             set(vars(Draft)))


class Deeds(Case):

    def test_items(self):
        draft = Draft(TEXT)
        for row, words in enumerate(TEXT):
            self.told(words, operator.getitem, draft, row)
        for thing in (*THINGS, 6, -6, slice(0, 1)):
            if type(thing) is not int or not 0 <= thing < 6:
                self.refused(NotUsable, ('row', thing), operator.getitem, draft, thing)
                self.refused(NotUsable, ('row', thing), operator.setitem, draft, thing, STOP)
                self.refused(NotUsable, ('row', thing), operator.setitem, draft, thing, None)
                self.refused(NotUsable, ('row', thing), draft.take_row, thing)
        self.assertEqual(rows_of(draft), TEXT)

    def test_setting(self):
        draft = Draft(TEXT)
        draft[0] = STOP
        draft[5] = END
        self.assertEqual(rows_of(draft), (STOP, *TEXT[1:5], END))

    def test_what_comes_in_is_a_row(self):
        draft = Draft(TEXT)
        for thing in (*THINGS, (STOP,), Text((STOP,))):
            if not is_row(thing):
                self.refused(NotUsable, ('new', -1), operator.setitem, draft, 0, thing)
                self.refused(NotUsable, ('new', -1), plus, draft, thing)
                self.refused(NotUsable, ('new', -1), draft.insert_row, 0, thing)
                self.refused(NotUsable, ('gap', 7), draft.insert_row, 7, thing)
        self.assertEqual(rows_of(draft), TEXT)

    def test_adding_keeps_the_object(self):
        draft = same = Draft((STOP,))
        draft += END
        self.assertIs(draft, same)
        self.assertEqual(rows_of(same), (STOP, END))

    def test_gaps(self):
        draft = Draft(TEXT)
        for thing in THINGS:
            if type(thing) is not int or not 0 <= thing <= 6:
                self.refused(NotUsable, ('gap', thing), draft.insert_row, thing, STOP)
                self.refused(NotUsable, ('gap', thing), draft.insert_row, thing, None)
        self.assertEqual(rows_of(draft), TEXT)
        self.assertIsNone(draft.insert_row(row=STOP, gap=6))
        self.assertIsNone(draft.insert_row(0, END))
        self.assertEqual(rows_of(draft), (END, *TEXT, STOP))

    def test_taking(self):
        draft = Draft(TEXT)
        self.told(('let', 'x', 'num'), draft.take_row, row=3)
        self.told(TEXT[5], draft.take_row, 4)
        self.assertEqual(rows_of(draft), (*TEXT[:3], END))
        self.refused(NotUsable, ('row', 4), draft.take_row, 4)

    def test_wrapping_refused(self):
        draft = Draft(TEXT)
        for thing in THINGS:
            if type(thing) is not int or not 0 <= thing < 6:
                self.refused(NotUsable, ('row', thing), draft.wrap, thing, thing, None)
                self.refused(NotUsable, ('row', thing), draft.wrap, 0, thing, None)
            if not is_sort(thing):
                self.refused(NotUsable, ('sort', -1), draft.wrap, 0, 0, thing)
        self.refused(NotUsable, ('row', 2), draft.wrap, 3, 2, None)
        self.assertEqual(rows_of(draft), TEXT)
        self.assertIsNone(draft.wrap(sort='if', first=0, last=5))
        self.assertEqual(rows_of(draft), (('open', 'if'), *TEXT, END))

    def test_lengths_and_equality(self):
        for rows in (*few_row_texts(1), TEXT):
            self.told(len(rows), len, Draft(rows))
            self.told(True, operator.eq, Draft(rows), Draft(rows))
            self.told(False, operator.eq, Draft(rows), Draft((*rows, STOP)))
            for thing in (*THINGS, Text(rows), rows, list(rows)):
                if type(thing) is not Draft:
                    self.told(False, operator.eq, Draft(rows), thing)
                    self.told(False, operator.eq, thing, Draft(rows))
        one, other = Draft((STOP,)), Draft((STOP, END))
        self.assertNotEqual(one, other)
        one += END
        self.assertEqual(one, other)
        one[0] = END
        self.assertNotEqual(one, other)


class Led(Case):
    """A Draft that is led as the functions of stage 3 tell has their rows."""

    def deed(self, draft, rows, chance):
        """Do one deed, right or wrong; return the rows that there are now to be."""
        one, other = chance.randint(-1, len(rows) + 1), chance.randint(-1, len(rows) + 1)
        row, sort = chance.choice((some_row(chance), None)), chance.choice((*SORTS, 'fun'))
        which = chance.randrange(4)
        try:
            if which == 0:
                rows = rowchanges.with_row(rows, one, row)
            elif which == 1:
                rows = rowchanges.without_row(rows, one)
            elif which == 2:
                rows = rowchanges.wrapped(rows, one, other, sort)
            else:
                rows = rowchanges.put_in(rows, one, (row,))
            refused = False
        except NotUsable:
            refused = True
        try:
            [lambda: operator.setitem(draft, one, row), lambda: draft.take_row(one), lambda: draft.wrap(one, other, sort),
             lambda: draft.insert_row(one, row)][which]()
            self.assertFalse(refused)
        except NotUsable:
            self.assertTrue(refused)
        return rows

    def test_led(self):
        chance = random.Random(3)
        for rows in some_texts(40, 6):
            draft, kept = Draft(rows), []
            for _ in range(30):
                rows = self.deed(draft, rows, chance)
                kept.append((draft.frozen(), rows))
                self.assertIs(type(draft.frozen()), Text)
            self.assertTrue(all(frozen.rows == then for frozen, then in kept))

    def test_what_is_handed_in_stays(self):
        one, other = Draft(TEXT), Draft(TEXT)
        frozen = one.frozen()
        twin = Draft(frozen.rows)
        one.take_row(0)
        twin += STOP
        self.assertEqual([rows_of(one), rows_of(other), rows_of(twin), frozen.rows], [TEXT[1:], TEXT, (*TEXT, STOP), TEXT])
