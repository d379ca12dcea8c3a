"""Point 22, with points 3, 4, 7 and 10: what rows find."""

from surelywrong.errors import NotUsable
from surelywrong.finding import function_of, let_found, loop_of, reign_of, uses_of
from tests import oracle
from tests.helper import Case, ENDS, ODD, STRAY, TEXT, few_row_texts, some_texts

BOTH = (*few_row_texts(3), *some_texts(150, 25), *some_texts(8, 60, seed=2), TEXT, STRAY, ENDS)
CALLS = (let_found, uses_of, function_of, loop_of, reign_of)


class Examples(Case):

    def test_of_the_document(self):
        self.assertEqual([let_found(TEXT, 2), let_found(TEXT, 5), uses_of(TEXT, 1), uses_of(TEXT, 3)], [1, None, (2,), ()])
        self.assertEqual([function_of(TEXT, 4), function_of(TEXT, 0), loop_of(TEXT, 2), reign_of(TEXT, 1), reign_of(TEXT, 3)],
                         [0, None, None, (2, 3), (4, 4)])
        self.refused(NotUsable, ('row', 1), let_found, TEXT, 1)


class Lets(Case):

    def test_the_innermost_block_that_has_one_above(self):
        text = (('let', 'x', 'a'), ('open', 'if'), ('use', 'x', 'a'), ('let', 'x', 'b'), ('open', ('fun', '')), ('use', 'x', 'a'),
                ('let', 'x', 'a'), ('let', 'x', 'b'), ('use', 'x', 'a'), ('let', 'x', 'a'), ('end',), ('use', 'x', 'a'), ('end',),
                ('use', 'x', 'a'), ('let', 'x', 'b'), ('use', 'y', 'a'), ('use', 'x', 'b'))
        self.assertEqual([let_found(text, row) for row in (2, 5, 8, 11, 13, 15, 16)], [0, 3, 7, 3, 0, None, 14])
        self.assertEqual([uses_of(text, row) for row in (0, 3, 6, 7, 9, 14)], [(2, 13), (5, 11), (), (8,), (), (16,)])

    def test_a_let_of_another_kind_is_found(self):
        self.told(1, let_found, (('let', 'x', 'a'), ('let', 'x', 'b'), ('use', 'x', 'a')), 2)

    def test_not_beyond_the_ground(self):
        text = (('let', 'x', 'a'), ('end',), ('use', 'x', 'a'), ('let', 'x', 'a'), ('open', 'if'), ('end',), ('use', 'x', 'a'))
        self.told(None, let_found, text, row=2)
        self.told(3, let_found, text=text, row=6)
        self.told((), uses_of, text=text, row=0)

    def test_not_in_a_block_beside(self):
        text = (('open', 'if'), ('let', 'x', 'a'), ('end',), ('open', 'if'), ('use', 'x', 'a'))
        self.told(None, let_found, text, 4)


class Around(Case):

    def test_loops_and_functions(self):
        text = (('open', 'loop'), ('open', ('fun', 'a')), ('stop',), ('open', 'loop'), ('open', 'if'), ('stop',),
                ('open', ('fun', '')), ('stop',), ('end',), ('stop',), ('end',), ('end',), ('end',), ('stop',), ('end',), ('stop',))
        self.assertEqual([loop_of(text, row) for row in (0, 1, 2, 3, 5, 7, 8, 9, 11, 12, 13, 14, 15)],
                         [None, 0, None, None, 3, None, None, 3, 3, None, 0, 0, None])
        self.assertEqual([function_of(text, row) for row in (0, 1, 2, 5, 6, 7, 8, 9, 12, 13, 15)],
                         [None, None, 1, 1, 1, 6, 6, 1, 1, None, None])

    def test_open_rows_and_end_rows(self):
        text = (('open', ('fun', 'a')), ('open', ('fun', 'b')), ('open', 'loop'), ('end',), ('end',), ('end',), ('end',))
        self.assertEqual([function_of(text, row) for row in range(7)], [None, 0, 1, 1, 1, 0, None])
        self.assertEqual([loop_of(text, row) for row in range(7)], [None, None, None, 2, None, None, None])

    def test_blocks_that_are_not_closed(self):
        text = (('open', 'loop'), ('open', 'if'), ('stop',))
        self.told(0, loop_of, text=text, row=2)
        self.told(None, function_of, text=text, row=2)


class Reigns(Case):

    def test_how_far(self):
        let, other = ('let', 'x', 'a'), ('let', 'y', 'a')
        self.told((1, 1), reign_of, (let,), 0)
        self.told((1, 4), reign_of, (let, other, ('open', 'if'), let), 0)
        self.told((1, 2), reign_of, (let, other, ('let', 'x', 'b')), 0)
        self.told((1, 5), reign_of, (let, ('open', 'if'), let, ('end',), other, ('end',), let), 0)
        self.told((3, 3), reign_of, text=(let, ('open', 'if'), let, ('end',), let), row=2)
        self.told((1, 4), reign_of, (let, ('open', 'if'), let, ('end',), let), 0)
        self.told((2, 3), reign_of, (('end',), let, ('stop',), ('end',), let), 1)


class Compared(Case):

    def test_with_the_definitions(self):
        for text in BOTH:
            found = {row: oracle.found_let(text, row) for row in range(len(text)) if text[row][0] == 'use'}
            for row in range(len(text)):
                self.told(oracle.function(text, row), function_of, text, row)
                self.told(oracle.loop(text, row), loop_of, text, row)
                if text[row][0] == 'use':
                    self.told(found[row], let_found, text, row)
                else:
                    self.refused(NotUsable, ('row', row), let_found, text, row)
                if text[row][0] == 'let':
                    self.told(tuple(use for use in found if found[use] == row), uses_of, text, row)
                    self.told(oracle.reign(text, row), reign_of, text, row)
                else:
                    self.refused(NotUsable, ('row', row), uses_of, text, row)
                    self.refused(NotUsable, ('row', row), reign_of, text, row)


class Wrong(Case):

    def test_rows(self):
        for call in CALLS:
            for thing in (*ODD, 6):
                if type(thing) is not int or not 0 <= thing < 6:
                    self.refused(NotUsable, ('row', thing), call, TEXT, thing)
            self.refused(NotUsable, ('row', 0), call, (), 0)
        self.refused(NotUsable, ('row', True), uses_of, TEXT, True)

    def test_the_text_is_looked_at_first(self):
        for call in CALLS:
            for thing in ODD:
                if type(thing) is not tuple:
                    self.refused(NotUsable, ('text', -1), call, thing, None)
            self.refused(NotUsable, ('text', 1), call, (('end',), ['end'], None), 99)
