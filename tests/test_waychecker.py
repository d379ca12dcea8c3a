"""Point 12, with points 6 and 10: carets and ways judged."""

from surelywrong.errors import InvalidPaper, NotUsable
from surelywrong.kinds import is_way
from surelywrong.waychecker import lets_carets, lets_way
from tests.helper import Case, ODD, TEXT, is_gap_set, some_texts

END = (('end',),)
TWO = (('end',), ('stop',))


class Examples(Case):

    def test_of_the_document(self):
        self.told(2, lets_way, TEXT, (0, 2), ((2, (('end',), ('stop',))),))
        self.refused(InvalidPaper, ('gap', 7), lets_carets, TEXT, (2, 7))


class Carets(Case):

    def test_how_many(self):
        for carets in ((), (0,), (6,), (0, 6), (1, 2, 5), (0, 1, 2, 3, 4, 5, 6)):
            self.told(len(carets), lets_carets, TEXT, carets)
        self.told(1, lets_carets, text=(), thing=(0,))
        self.told(61, lets_carets, TEXT * 10, tuple(range(61)))
        self.told(601, lets_carets, TEXT * 100, tuple(range(601)))

    def test_the_first_gap_that_is_none(self):
        self.refused(InvalidPaper, ('gap', 1), lets_carets, (), (0, 1, 2))
        self.refused(InvalidPaper, ('gap', 8), lets_carets, TEXT, (8, 10 ** 59))
        self.refused(InvalidPaper, ('gap', 10 ** 59), lets_carets, TEXT, (6, 10 ** 59))

    def test_shapes(self):
        for thing in ODD:
            if not is_gap_set(thing, 10 ** 60):
                self.refused(InvalidPaper, ('shape', -1), lets_carets, TEXT, thing)
        for thing in ((7, 2), (7, 7), (9, True), (-1, 7), [2], (2, None)):
            self.refused(InvalidPaper, ('shape', -1), lets_carets, TEXT, thing)

    def test_texts(self):
        for thing in ODD:
            if type(thing) is not tuple:
                self.refused(NotUsable, ('text', -1), lets_carets, thing, (2, 7))
                self.refused(NotUsable, ('text', -1), lets_carets, thing, None)
        self.refused(NotUsable, ('text', 6), lets_carets, (*TEXT, None, 'end'), [])
        self.refused(NotUsable, ('text', 0), lets_carets, ('end',), [])


class Ways(Case):

    def test_how_many_rows(self):
        self.told(0, lets_way, TEXT, (), ())
        self.told(0, lets_way, (), (0,), ())
        self.told(1, lets_way, (), (0,), ((0, END),))
        self.told(5, lets_way, TEXT, (0, 2, 6), ((0, END), (2, TWO), (6, TWO)))
        self.told(500, lets_way, text=TEXT, carets=(6,), thing=((6, END * 500),))
        carets = tuple(range(0, 601, 2))
        self.told(602, lets_way, TEXT * 100, carets, tuple((gap, TWO) for gap in carets))

    def test_the_first_gap_that_is_no_caret(self):
        self.refused(InvalidPaper, ('caret', 3), lets_way, TEXT, (0, 2), ((0, END), (3, END), (4, END)))
        self.refused(InvalidPaper, ('caret', 0), lets_way, TEXT, (), ((0, END),))
        self.refused(InvalidPaper, ('caret', 7), lets_way, TEXT, (0, 6), ((6, END), (7, END)))
        self.refused(InvalidPaper, ('caret', 10 ** 59), lets_way, TEXT, (0, 6), ((10 ** 59, END),))

    def test_shapes(self):
        for thing in ODD:
            if not is_way(thing):
                self.refused(InvalidPaper, ('shape', -1), lets_way, TEXT, (0, 2), thing)
        for thing in (((0, ()),), ((2, END), (0, END)), ((2, END), (2, END)), ((True, END),), [(2, END)], ((2, list(END)),),
                      ([2, END],), ((5, END), (2, ()))):
            self.refused(InvalidPaper, ('shape', -1), lets_way, TEXT, (0, 1, 2), thing)

    def test_carets_are_looked_at_ahead_of_the_way(self):
        for carets in ODD:
            if not is_gap_set(carets, 6):
                self.refused(NotUsable, ('carets', -1), lets_way, TEXT, carets, None)
                self.refused(NotUsable, ('carets', -1), lets_way, TEXT, carets, ())
        self.refused(NotUsable, ('carets', -1), lets_way, TEXT, (2, 7), ((9, END),))
        self.refused(NotUsable, ('carets', -1), lets_way, TEXT, (0, True), ())

    def test_the_text_is_looked_at_first(self):
        self.refused(NotUsable, ('text', -1), lets_way, list(TEXT), [2], None)
        self.refused(NotUsable, ('text', 1), lets_way, (('end',), ('end', 0), None), (True,), None)

    def test_all_gaps_of_many_texts(self):
        for text in some_texts(20, 12):
            carets = tuple(range(len(text) + 1))
            self.told(len(carets), lets_carets, text, carets)
            self.told(len(carets), lets_way, text, carets, tuple((gap, END) for gap in carets))
            self.refused(InvalidPaper, ('gap', len(carets)), lets_carets, text, (*carets, len(carets)))
