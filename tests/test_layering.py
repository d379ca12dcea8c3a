"""Point 36, with points 8 and 10: segments and layers."""

import random

from surelywrong.errors import NotUsable
from surelywrong.layering import layer_of, rows_of_layer, segment_of
from tests import oracle
from tests.helper import Case, ENDS, STRAY, TEXT, few_row_texts, some_carets, some_texts

IF, END, STOP = ('open', 'if'), ('end',), ('stop',)
CALLS = (segment_of, layer_of, rows_of_layer)


class Examples(Case):

    def test_of_the_document(self):
        self.assertEqual([segment_of(TEXT, (2,), 3), segment_of(TEXT, (2,), 1), layer_of(TEXT, (2,), 4), layer_of(TEXT, (2,), 5)],
                         [(2, 5), None, 0, 1])
        self.assertEqual([rows_of_layer(TEXT, (2,), 4), rows_of_layer(TEXT, (0,), 4), rows_of_layer(TEXT, (2, 5), 4),
                          rows_of_layer(TEXT, (2,), 0)], [(2, 3, 4), (0, 1, 2, 3, 4, 5), (2, 3, 4), ()])


class Ends(Case):

    def layers(self, text, carets, *expected):
        for row, layer in enumerate(expected):
            self.told(layer, layer_of, text, carets, row)
            rows = () if layer is None else tuple(
                other for other in range(len(text))
                if expected[other] == layer and segment_of(text, carets, other) == segment_of(text, carets, row))
            self.told(rows, rows_of_layer, text, carets, row)

    def test_of_blocks_opened_ahead_of_the_caret(self):
        self.layers((IF, IF, STOP, END, STOP, END), (2,), None, None, 0, 0, 1, 1)
        self.layers((IF, IF, STOP, END, STOP, END), (2, 4), None, None, 0, 0, 0, 0)
        self.layers((IF, IF, STOP, END, STOP, END), (3,), None, None, None, 0, 1, 1)

    def test_of_blocks_opened_in_the_segment(self):
        self.layers((IF, STOP, END, STOP), (0,), 0, 0, 0, 0)
        self.layers((IF, IF, END, IF, END, END, STOP), (1,), None, 0, 0, 0, 0, 0, 1)
        self.layers((IF, ('let', 'end', 'end'), ('use', 'open', 'end'), END, STOP), (0,), 0, 0, 0, 0, 0)

    def test_of_blocks_opened_in_the_segment_before(self):
        self.layers((IF, STOP, END, STOP), (0, 1), 0, 0, 0, 1)
        self.layers((IF, IF, STOP, END, END, END, STOP), (0, 2, 6), 0, 0, 0, 0, 1, 2, 0)

    def test_of_grounds(self):
        self.layers((END, END, IF, END, END, STOP), (0,), 0, 1, 2, 2, 2, 3)
        self.layers((STOP, END, IF, END, END, END), (1,), None, 0, 1, 1, 1, 2)

    def test_segments(self):
        self.told((0, 0), segment_of, STRAY, (0, 1, 4), 0)
        self.told((1, 3), segment_of, STRAY, (0, 1, 4), 1)
        self.told((1, 3), segment_of, STRAY, (0, 1, 4), 3)
        self.told(None, segment_of, STRAY, (4,), 3)
        for row in range(4):
            self.told(None, segment_of, STRAY, (), row)
            self.told(None, layer_of, STRAY, (), row)
            self.told((), rows_of_layer, STRAY, (), row)

    def test_by_name(self):
        self.told((2, 5), segment_of, row=3, carets=(2,), text=TEXT)
        self.told(1, layer_of, text=TEXT, carets=(2,), row=5)
        self.told((5,), rows_of_layer, text=TEXT, carets=(2,), row=5)

    def test_sixty_rows(self):
        text = (IF,) * 30 + (END,) * 30
        self.told(29, layer_of, text, (30,), 59)
        self.told((59,), rows_of_layer, text, (30,), 59)
        self.told((30, 59), segment_of, text, (30, 60), 59)


class Compared(Case):

    def test_with_the_definitions(self):
        chance = random.Random(19)
        for text in (TEXT, STRAY, ENDS, *few_row_texts(2), *some_texts(150, 15, seed=20), *some_texts(4, 60, seed=21)):
            for carets in ((), tuple(range(len(text) + 1)), *[some_carets(chance, text) for _ in range(3)]):
                for row in range(len(text)):
                    rows = oracle.segment(text, carets, row)
                    self.told(None if rows is None else (rows[0], rows[-1]), segment_of, text, carets, row)
                    layer = None if rows is None else oracle.layer(text, carets, row)
                    self.told(layer, layer_of, text, carets, row)
                    same = [] if rows is None else [other for other in rows if oracle.layer(text, carets, other) == layer]
                    self.told(tuple(same), rows_of_layer, text, carets, row)


class Wrong(Case):

    def test_what_is_not_usable(self):
        for call in CALLS:
            self.unusable(call, text=TEXT, carets=(2, 4), row=3)
            self.refused(NotUsable, ('row', 0), call, (), (0,), 0)
            self.refused(NotUsable, ('carets', -1), call, (), (0, 1), 0)
