"""Point 13, with points 3 and 10: blocks and grounds."""

from surelywrong.blocks import block_of, end_of, is_ground, level_of, open_at
from surelywrong.errors import NotUsable
from tests import oracle
from tests.helper import Case, ODD, STRAY, TEXT, few_row_texts, some_texts

BOTH = (*few_row_texts(3), *some_texts(60, 30), *some_texts(6, 60, seed=2))


class Examples(Case):

    def test_of_the_document(self):
        self.assertEqual([end_of(TEXT, 0), open_at(TEXT, 3), level_of(TEXT, 0), level_of(STRAY, -1), is_ground(STRAY, 2)],
                         [4, (0,), (1, 2, 3, 4), (0, 2), True])
        self.assertEqual([block_of(STRAY, 0), block_of(STRAY, 1), block_of(STRAY, 2), block_of(STRAY, 3)], [-1, 0, -1, 2])


class Edges(Case):

    def test_the_empty_text(self):
        self.told((), level_of, (), -1)
        self.told(True, is_ground, (), -1)
        self.told((), open_at, (), 0)

    def test_blocks_that_are_not_closed(self):
        text = (('open', 'if'), ('open', 'loop'), ('stop',), ('end',))
        self.told(None, end_of, text, 0)
        self.told(3, end_of, text, 1)
        self.told((0, 1), open_at, text, 3)
        self.told((0,), open_at, text, 4)
        self.told((1,), level_of, text, 0)

    def test_grounds_in_a_row(self):
        text = (('end',), ('end',), ('open', 'if'))
        self.told((0,), level_of, text, -1)
        self.told((1,), level_of, text, 0)
        self.told((2,), level_of, text, 1)
        self.told((), level_of, text, 2)
        self.assertEqual([is_ground(text, block) for block in (-1, 0, 1, 2)], [True, True, True, False])
        self.told((), open_at, text, 2)

    def test_by_name(self):
        self.told(4, end_of, text=TEXT, row=0)
        self.told((0,), open_at, text=TEXT, gap=3)
        self.told(0, block_of, row=3, text=TEXT)
        self.told((1, 2, 3, 4), level_of, text=TEXT, block=0)
        self.told(False, is_ground, text=TEXT, block=0)

    def test_beyond_sixty_rows(self):
        text = (('open', 'if'),) * 500 + (('end',),) * 501
        self.told(999, end_of, text, 0)
        self.told(tuple(range(500)), open_at, text, 500)
        self.told(True, is_ground, text, 1000)


class Compared(Case):

    def test_ends_and_owners(self):
        for text in BOTH:
            for row in range(len(text)):
                self.told(oracle.level(text, row), block_of, text, row)
                if text[row][0] == 'open':
                    self.told(oracle.end_row(text, row), end_of, text, row)
                else:
                    self.refused(NotUsable, ('row', row), end_of, text, row)

    def test_open_blocks(self):
        for text in BOTH:
            for gap in range(len(text) + 1):
                closed = [oracle.end_row(text[:gap], row) for row in oracle.opens(text[:gap])]
                still = [row for row, end in zip(oracle.opens(text[:gap]), closed) if end is None]
                self.told(tuple(still), open_at, text, gap)

    def test_levels_and_grounds(self):
        for text in BOTH:
            at, strays = oracle.places(text), oracle.stray_ends(text)
            for block in range(-1, len(text)):
                if block in [-1, *strays, *oracle.opens(text)]:
                    self.told(tuple(row for row in range(len(text)) if at[row] == block), level_of, text, block)
                    self.told(block in [-1, *strays], is_ground, text, block)
                else:
                    self.refused(NotUsable, ('block', block), level_of, text, block)
                    self.refused(NotUsable, ('block', block), is_ground, text, block)


class Wrong(Case):

    def test_rows_and_gaps(self):
        for thing in ODD:
            usable = type(thing) is int and 0 <= thing < len(TEXT)
            if not usable:
                self.refused(NotUsable, ('row', thing), block_of, TEXT, thing)
                self.refused(NotUsable, ('gap', thing), open_at, TEXT, thing)
            if not usable or thing != 0:
                self.refused(NotUsable, ('row', thing), end_of, TEXT, thing)
        self.refused(NotUsable, ('row', 6), block_of, TEXT, 6)
        self.refused(NotUsable, ('row', 6), end_of, TEXT, 6)
        self.refused(NotUsable, ('row', 0), end_of, (), 0)
        self.refused(NotUsable, ('gap', 7), open_at, TEXT, 7)
        self.refused(NotUsable, ('gap', 1), open_at, (), 1)

    def test_false_is_not_row_0(self):
        self.refused(NotUsable, ('row', False), end_of, TEXT, False)
        self.refused(NotUsable, ('block', False), level_of, TEXT, False)
        self.refused(NotUsable, ('block', True), is_ground, (('stop',), ('end',)), True)

    def test_blocks(self):
        for thing in ODD:
            if type(thing) is not int or thing not in (-1, 0):
                self.refused(NotUsable, ('block', thing), level_of, TEXT, thing)
                self.refused(NotUsable, ('block', thing), is_ground, TEXT, thing)
        self.refused(NotUsable, ('block', 4), level_of, TEXT, 4)
        self.refused(NotUsable, ('block', 1), level_of, STRAY, 1)
        self.refused(NotUsable, ('block', -2), is_ground, STRAY, -2)

    def test_the_very_object_is_kept(self):
        thing = [1, [2]]
        for call in (end_of, open_at, block_of, level_of, is_ground):
            with self.assertRaises(NotUsable) as caught:
                call(TEXT, thing)
            self.assertIs(caught.exception.at, thing)

    def test_the_text_is_looked_at_first(self):
        for call in (end_of, open_at, block_of, level_of, is_ground):
            for thing in ODD:
                if type(thing) is not tuple:
                    self.refused(NotUsable, ('text', -1), call, thing, None)
                    self.refused(NotUsable, ('text', -1), call, thing, 0)
            self.refused(NotUsable, ('text', 1), call, (('end',), ('end', ''), 0), 99)
            self.refused(NotUsable, ('text', 6), call, (*TEXT, ['end']), 0)
