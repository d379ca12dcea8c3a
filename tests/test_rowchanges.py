"""Points 14 and 15, with points 3 and 10: changed texts."""

from surelywrong.blocks import block_of, open_at
from surelywrong.errors import NotUsable
from surelywrong.kinds import is_row, is_sort, is_text
from surelywrong.rowchanges import put_in, rekinded, renamed, with_row, without_row, wrapped
from tests import oracle
from tests.helper import Case, ODD, TEXT, few_row_texts, some_texts

STOP = ('stop',)
FUNS = (('open', ('fun', 'a')), ('open', ('fun', '')), ('give', 'a'), ('give', ''), ('let', 'a', 'a'), ('use', 'b', 'b'),
        ('open', 'if'), ('end',), STOP)


class Examples(Case):

    def test_of_the_document(self):
        self.told((('open', 'loop'), ('stop',), ('end',)), wrapped, (('stop',),), 0, 0, 'loop')
        self.told((('let', 'x', 'text'), ('use', 'x', 'num')), rekinded, TEXT[1:3], ('num', 'text'), ('text', 'num'))
        self.refused(NotUsable, ('name', 'x'), renamed, TEXT, ('x', 'y'), ('y', 'z'), ('x', 'x'))


class Rows(Case):

    def test_each_place(self):
        for text in some_texts(20, 12):
            for row in range(len(text)):
                left = list(text)
                del left[row]
                self.told(tuple(left), without_row, text, row)
                left.insert(row, STOP)
                self.told(tuple(left), with_row, text, row, STOP)
            for gap in range(len(text) + 1):
                for rows in ((), (STOP,), TEXT):
                    self.told(tuple([*text[:gap], *rows, *text[gap:]]), put_in, text, gap, rows)

    def test_wrapped_in_each_span(self):
        for text in some_texts(10, 8):
            for first in range(len(text)):
                for last in range(first, len(text)):
                    rows = list(text)
                    rows.insert(last + 1, ('end',))
                    rows.insert(first, ('open', ('fun', '')))
                    self.told(tuple(rows), wrapped, text, first, last, ('fun', ''))

    def test_by_name(self):
        self.told((STOP,), with_row, text=(('end',),), row=0, new=STOP)
        self.told((), without_row, text=(('end',),), row=0)
        self.told((STOP,), put_in, text=(), gap=0, rows=(STOP,))
        self.told((('open', 'if'), STOP, ('end',)), wrapped, text=(STOP,), first=0, last=0, sort='if')
        self.told((STOP,), renamed, text=(STOP,))
        self.told((STOP,), rekinded, text=(STOP,))


class Names(Case):

    def test_names_where_they_stand(self):
        self.told((*FUNS[:4], ('let', 'b', 'a'), ('use', 'a', 'b'), *FUNS[6:]), renamed, FUNS, ('a', 'b'), ('b', 'a'))
        self.told((*FUNS[:5], ('use', 'a', 'b'), *FUNS[6:]), renamed, FUNS, ('b', 'a'), ('zz', 'b'))
        self.told(FUNS, renamed, FUNS)
        self.told(FUNS, renamed, FUNS, ('fun', 'x'), ('let', 'y'), ('if', 'z'), ('a', 'a'))

    def test_kinds_where_they_stand(self):
        self.told((('open', ('fun', 'b')), FUNS[1], ('give', 'b'), FUNS[3], ('let', 'a', 'b'), ('use', 'b', 'a'), *FUNS[6:]),
                  rekinded, FUNS, ('a', 'b'), ('b', 'a'))
        self.told((('open', ('fun', 'c')), FUNS[1], ('give', 'c'), FUNS[3], ('let', 'a', 'c'), *FUNS[5:]),
                  rekinded, FUNS, ('a', 'c'))
        self.told(FUNS, rekinded, FUNS)
        self.told(FUNS, rekinded, FUNS, ('fun', 'x'), ('give', 'y'), ('loop', 'z'), ('if', 'w'))

    def test_with_words_that_rows_begin_with(self):
        text = (('let', 'end', 'let'), ('use', 'let', 'end'), ('give', 'give'), ('open', ('fun', 'fun')))
        self.told((('let', 'x', 'let'), ('use', 'y', 'end'), *text[2:]), renamed, text, ('end', 'x'), ('let', 'y'))
        self.told((text[0], ('use', 'let', 'x'), *text[2:]), rekinded, text, ('end', 'x'))
        self.told((*text[:2], ('give', 'x'), ('open', ('fun', 'y'))), rekinded, text, ('give', 'x'), ('fun', 'y'))

    def test_all_at_once_and_not_one_behind_the_other(self):
        text = (('let', 'x', 'a'), ('let', 'y', 'b'), ('let', 'z', 'c'))
        self.told((('let', 'y', 'a'), ('let', 'z', 'b'), ('let', 'x', 'c')), renamed, text, ('x', 'y'), ('y', 'z'), ('z', 'x'))
        self.told((('let', 'z', 'a'), ('let', 'z', 'b'), ('let', 'z', 'c')), renamed, text, ('x', 'z'), ('y', 'z'))
        self.told((('let', 'x', 'b'), ('let', 'y', 'c'), ('let', 'z', 'a')), rekinded, text, ('a', 'b'), ('b', 'c'), ('c', 'a'))

    def test_the_first_pair_at_fault(self):
        good = ('x', 'y')
        for change in (renamed, rekinded):
            for thing in ODD:
                if thing not in (('let', 'x'), ('fun', 'a'), ('open', 'while')):
                    self.refused(NotUsable, ('pairs', 0), change, TEXT, thing)
                    self.refused(NotUsable, ('pairs', 1), change, TEXT, good, thing, good)
            for thing in (('x', ''), ('', 'x'), ('x', 'Y'), ('x',), ('x', 'y', 'z'), ['x', 'y'], ('x', 'abcdefghi'), 'xy',
                          ('x', None), (['x'], 'y'), (True, 'x')):
                self.refused(NotUsable, ('pairs', 1), change, TEXT, good, thing)
            self.refused(NotUsable, ('name', 'x'), change, TEXT, good, ('x', 'y'), None)
            self.refused(NotUsable, ('pairs', 1), change, TEXT, good, None, ('x', 'y'))
            self.refused(NotUsable, ('pairs', 1), change, TEXT, good, ('x', ''))
            self.refused(NotUsable, ('name', 'b'), change, (), ('a', 'b'), ('b', 'c'), ('c', 'b'), ('b', 'b'))


class Wrong(Case):

    def test_rows_and_gaps(self):
        for thing in ODD:
            if type(thing) is not int or not 0 <= thing < len(TEXT):
                self.refused(NotUsable, ('row', thing), with_row, TEXT, thing, None)
                self.refused(NotUsable, ('row', thing), without_row, TEXT, thing)
                self.refused(NotUsable, ('gap', thing), put_in, TEXT, thing, None)
                self.refused(NotUsable, ('row', thing), wrapped, TEXT, thing, None, None)
                self.refused(NotUsable, ('row', thing), wrapped, TEXT, 0, thing, None)
        self.refused(NotUsable, ('row', 6), with_row, TEXT, 6, STOP)
        self.refused(NotUsable, ('row', 6), without_row, TEXT, 6)
        self.refused(NotUsable, ('gap', 7), put_in, TEXT, 7, ())
        self.refused(NotUsable, ('row', 6), wrapped, TEXT, 6, 7, 'if')
        self.refused(NotUsable, ('row', 6), wrapped, TEXT, 5, 6, 'if')
        self.refused(NotUsable, ('row', 2), wrapped, TEXT, 3, 2, None)
        self.refused(NotUsable, ('row', 0), wrapped, (), 0, 0, 'if')

    def test_what_comes_in(self):
        for thing in ODD:
            if not is_row(thing):
                self.refused(NotUsable, ('new', -1), with_row, TEXT, 0, thing)
            if not is_text(thing):
                self.refused(NotUsable, ('rows', -1), put_in, TEXT, 0, thing)
            if not is_sort(thing):
                self.refused(NotUsable, ('sort', -1), wrapped, TEXT, 0, 0, thing)
        self.refused(NotUsable, ('rows', -1), put_in, TEXT, 0, STOP)
        self.refused(NotUsable, ('rows', -1), put_in, TEXT, 6, (STOP, None))
        self.refused(NotUsable, ('new', -1), with_row, TEXT, 0, (STOP,))

    def test_the_text_is_looked_at_first(self):
        for text, k in ((list(TEXT), -1), (None, -1), ('', -1), ((*TEXT, ('end', 1), 0), 6), ((TEXT,), 0)):
            self.refused(NotUsable, ('text', k), with_row, text, -1, None)
            self.refused(NotUsable, ('text', k), without_row, text, True)
            self.refused(NotUsable, ('text', k), put_in, text, None, None)
            self.refused(NotUsable, ('text', k), wrapped, text, 9, None, None)
            self.refused(NotUsable, ('text', k), renamed, text, None)
            self.refused(NotUsable, ('text', k), rekinded, text, ('x', 'y'), ('x', 'y'))


class Consequences(Case):

    def test_what_is_put_in_can_be_left_out(self):
        for text in some_texts(20, 10):
            for gap in range(len(text) + 1):
                self.told(text, without_row, put_in(text, gap, (STOP,)), gap)

    def test_wrapped_as_a_whole(self):
        seen = 0
        for text in few_row_texts(4):
            if text and open_at(text, len(text)) == () and not oracle.stray_ends(text):
                whole = wrapped(text, 0, len(text) - 1, 'if')
                self.told((), open_at, whole, len(whole))
                self.assertEqual(oracle.stray_ends(whole), [])
                self.assertTrue(all(block_of(whole, row + 1) == block_of(text, row) + 1 for row in range(len(text))))
                seen = seen + 1
        self.assertGreater(seen, 100)

    def test_exchanged_twice(self):
        for text in some_texts(30, 20):
            for change, (one, other) in ((renamed, ('x', 'y')), (rekinded, ('a', 'b'))):
                pairs = ((one, other), (other, one))
                self.told(text, change, change(text, *pairs), *pairs)
