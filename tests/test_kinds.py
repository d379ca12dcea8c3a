"""Point 11, with points 2, 3, 5 and 6: of which kind any value is."""

from surelywrong import kinds
from tests.helper import Case, ODD, TEXT, WORDS, deep, few_row_texts, some_texts

NAMES = ('a', 'z', 'let', 'end', 'fun', 'abcdefgh', 'zzzzzzzz')
NO_NAMES = ('', 'abcdefghi', 'A', 'aB', 'a1', '1', 'a b', ' a', 'a ', 'a\n', '\n', '-', 'a-b', 'a_b', '\u00e9', '\u00df',
            '\u03b1', None, True, 0, ('a',), ['a'], ('a', 'b'))
SORTS = ('if', 'loop', ('fun', ''), ('fun', 'num'), ('fun', 'if'))
NO_SORTS = ('', 'fun', 'while', 'i', 'op', ('if',), ('fun',), ('fun', 'a', 'a'), ('fun', 'A'), ('fun', None), ('fun', 0),
            ['fun', 'a'], ('fun', ['a']), ('loop', ''), (True, 'a'), (['fun'], 'a'), None, True, 1, ())
ROWS = (*[('open', sort) for sort in SORTS], ('end',), ('stop',), ('let', 'x', 'num'), ('use', 'let', 'end'),
        ('let', 'abcdefgh', 'zzzzzzzz'), ('give', ''), ('give', 'num'))
NO_ROWS = (*[('open', sort) for sort in NO_SORTS], ('open',), ('open', 'if', 'if'), ('end', ''), ('end', 'x'), ('stop', None),
           ('let', 'x'), ('let', 'x', ''), ('use', 'x', ''), ('let', '', 'x'), ('use', 'x', 'num', 'x'), ('use', 'X', 'num'),
           ('let', 'x', 'abcdefghi'), ('let', 1, 'num'), ('use', 'x', ['num']), ('give',), ('give', 'a', 'b'), ('give', '-'),
           ('give', None), ('give', False), ('give', ()), (), ('',), ('END',), ('end\n',), ('loop',), ('nd',), 'end', ['end'],
           ['let', 'x', 'num'], (['end'],), (('end',),), (None,), (True,), (0,), None, True, False, 0, 1, deep(30))
GAPS = ((), (0,), (5,), (0, 1), (0, 3, 10 ** 59), tuple(range(100)))
NO_GAPS = ((1, 0), (0, 0), (0, 2, 2), (-1,), (-1, 0), (True,), (False, 1), (0, True), (0, None), (None,), ('0',), ((0,),), [],
           [0], (0, [1]), '', '0', None, 0, True)


class Kinds(Case):

    def just(self, check, good, bad):
        """The check is True for all good values and False for all bad ones."""
        for thing in good:
            self.told(True, check, thing)
            self.told(True, check, thing=thing)
        for thing in bad:
            self.told(False, check, thing)
            self.told(False, check, thing=thing)

    def test_integers_and_numbers(self):
        integers, numbers = (-1, -(10 ** 59)), (0, 1, 60, 10 ** 59)
        others = [thing for thing in ODD if type(thing) is not int]
        self.just(kinds.is_integer, (*integers, *numbers), others)
        self.just(kinds.is_number, numbers, (*integers, *others))

    def test_names(self):
        self.just(kinds.is_name, NAMES, NO_NAMES)

    def test_kinds(self):
        self.just(kinds.is_kind, (*NAMES, ''), [thing for thing in NO_NAMES if thing != ''])
        self.just(kinds.is_kind, (), ((), [], 0, False, None))

    def test_sorts(self):
        self.just(kinds.is_sort, SORTS, NO_SORTS)

    def test_rows(self):
        self.just(kinds.is_row, ROWS, NO_ROWS)

    def test_texts(self):
        self.just(kinds.is_text, ((), ROWS, TEXT, (('end',),) * 500), (list(ROWS), [], 'end', ('end',), None, True, 0))
        self.just(kinds.is_text, some_texts(50, 60), ())
        for row in NO_ROWS:
            self.just(kinds.is_text, (), ((row,), (*ROWS, row), (row, *ROWS)))

    def test_gaps(self):
        self.just(kinds.is_gaps, GAPS, NO_GAPS)

    def test_complaints(self):
        good = [(row, word) for row in (0, 7, 10 ** 59) for word in WORDS]
        self.just(kinds.is_complaint, good, [list(pair) for pair in good])
        self.just(kinds.is_complaint, (), (
            (0, ''), (0, 'uses'), (0, 'us'), (0, 'let'), (0, 'USE'), (0, 'use\n'), (-1, 'use'), (True, 'use'), (False, 'use'),
            ('0', 'use'), (None, 'use'), (0, None), (0, 0), (0, ['use']), (0, ('use',)), ('use', 0), (0,), (0, 'use', 'use'), (),
            ((0, 'use'),), '0:use', 'us', None, True, 0))

    def test_ways(self):
        some = (('end',),)
        self.just(kinds.is_way, ((), ((0, some),), ((7, TEXT),), ((0, some), (1, TEXT), (9, some)), ((3, some * 500),)), (
            ((0, ()),), ((1, some), (0, some)), ((0, some), (0, some)), ((-1, some),), ((True, some),), (('0', some),),
            ((None, some),), ((0, [('end',)]),), ((0, ('end',)),), ((0, (('end', ''),)),), ((0, (['end'],)),), ((0, 'end'),),
            ((0,),), ((0, some, some),), ([0, some],), [(0, some)], [], (0, some), (0,), ((),), '', None, True, 0))

    def test_odd_values(self):
        expected = {
            kinds.is_name: ('x', 'let'), kinds.is_kind: ('', 'x', 'let'), kinds.is_sort: (('fun', 'a'),),
            kinds.is_row: (('end',),), kinds.is_text: ((), (('end',),)), kinds.is_gaps: ((), (0,)),
            kinds.is_complaint: ((0, 'use'),), kinds.is_way: ((), ((0, (('end',),)),)),
        }
        for check, good in expected.items():
            self.just(check, good, [thing for thing in ODD if repr(thing) not in map(repr, good)])

    def test_results_are_bools_for_all_small_texts(self):
        for text in few_row_texts(3):
            self.told(True, kinds.is_text, text)
            self.told(False, kinds.is_row, text)
