"""Point 18, with points 2, 10 and 17: texts as objects."""

import operator

from surelywrong import texts
from surelywrong.drafts import Draft
from surelywrong.errors import InvalidText, NotUsable
from surelywrong.gapsets import Gaps
from surelywrong.kinds import is_row
from surelywrong.rowtexts import text_lines
from surelywrong.texts import Text
from tests.helper import Case, ODD, TEXT, some_texts

STOP, END = ('stop',), ('end',)
OBJECTS = (Text(), Text(TEXT), Draft(), Draft(TEXT), Gaps(), Gaps(0, 1), (Text(),), [Draft()], (STOP, Gaps(1)),
           ('let', Text(), 'num'), ('open', ('fun', Text())), (Text(), 'a'), NotUsable('row', 0))
THINGS = (*ODD, *OBJECTS)


class Examples(Case):

    def test_of_the_document(self):
        self.told('stop\nend', str, ('stop',) + Text((('end',),)))
        self.told(True, operator.contains, Text(TEXT), ('end',))
        self.told(True, operator.eq, Text.read('end'), Text.of_rows(('end',)))


class Making(Case):

    def test_rows(self):
        for rows in (*some_texts(20, 60), (STOP,) * 500):
            self.told(rows, lambda rows: Text(rows).rows, rows)
            self.told(rows, lambda rows: Text(rows=rows).rows, rows)
            self.told(rows, lambda rows: Text.of_rows(*rows).rows, rows)
        self.assertEqual([Text().rows, Text(()).rows, Text.of_rows().rows], [()] * 3)

    def test_no_rows(self):
        for thing in THINGS:
            if type(thing) is not tuple:
                self.refused(NotUsable, ('rows', -1), Text, thing)
            if not is_row(thing):
                self.refused(NotUsable, ('rows', 1), Text, (STOP, thing, None))
                self.refused(NotUsable, ('rows', 0), Text.of_rows, thing)
                self.refused(NotUsable, ('rows', 2), Text.of_rows, STOP, END, thing, thing)
        self.refused(NotUsable, ('rows', 0), Text.of_rows, TEXT)
        self.refused(NotUsable, ('rows', -1), Text, [STOP])
        self.refused(NotUsable, ('rows', -1), Text, Text())

    def test_read(self):
        self.assertEqual(Text.read('').rows, ())
        for text in some_texts(20, 20):
            read = Text.read(lines=text_lines(text))
            self.assertIs(type(read), Text)
            self.assertEqual(read.rows, text)
        for thing in THINGS:
            if type(thing) is not str:
                self.refused(NotUsable, ('lines', -1), Text.read, thing)
        self.refused(InvalidText, (1, 2), Text.read, 'stop\nopen fun')
        self.refused(InvalidText, (1, 0), Text().read, 'stop\n')

    def test_methods_stand_in_the_class(self):
        own = set(vars(Text))
        self.assertLessEqual({'rows', 'read', 'of_rows', '__add__', '__radd__', '__getitem__', '__contains__', '__len__', '__bool__',
                              '__eq__', '__str__'}, own)
        self.assertIsInstance(vars(Text)['rows'], property)
        self.assertIsInstance(vars(Text)['read'], classmethod)
        self.assertIsInstance(vars(Text)['of_rows'], staticmethod)
        self.assertEqual(Text.__module__, texts.__name__)


class Using(Case):

    def test_adding(self):
        for rows in some_texts(10, 10):
            text = Text(rows)
            for added, expected in ((text + STOP, (*rows, STOP)), (STOP + text, (STOP, *rows)), (text + Text(TEXT), (*rows, *TEXT)),
                                    (Text(TEXT) + text, (*TEXT, *rows)), (text + Text(), rows), (text + text, rows + rows)):
                self.assertIs(type(added), Text)
                self.assertEqual(added.rows, expected)
            self.assertEqual(text.rows, rows)

    def test_adding_leaves_what_was_there(self):
        text = other = Text((STOP,))
        text += END
        self.assertEqual([text.rows, other.rows], [(STOP, END), (STOP,)])

    def test_adding_what_is_no_row(self):
        for thing in THINGS:
            if type(thing) is not Text and not is_row(thing):
                self.refused(NotUsable, ('other', -1), operator.add, Text(TEXT), thing)
                self.refused(NotUsable, ('other', -1), operator.add, thing, Text(TEXT))
        self.refused(NotUsable, ('other', -1), operator.add, Text(), (STOP,))
        self.refused(NotUsable, ('other', -1), operator.add, (), Text())
        self.refused(NotUsable, ('other', -1), operator.add, Text(), Draft())

    def test_items(self):
        text = Text(TEXT)
        for row, words in enumerate(TEXT):
            self.told(words, operator.getitem, text, row)
        for thing in (*THINGS, 6, -6, -7, slice(0, 2), 10 ** 59):
            if type(thing) is not int or not 0 <= thing < 6:
                self.refused(NotUsable, ('row', thing), operator.getitem, text, thing)
        self.refused(NotUsable, ('row', 0), operator.getitem, Text(), 0)

    def test_in(self):
        text = Text((STOP, ('let', 'x', 'num'), ('open', ('fun', ''))))
        for thing in (STOP, ('let', 'x', 'num'), ('open', ('fun', ''))):
            self.told(True, operator.contains, text, thing)
        for thing in (*THINGS, ('let', 'x', 'text'), ['stop'], 'stop', ('open', ['fun', '']), 0):
            self.told(False, operator.contains, text, thing)
        self.told(False, operator.contains, Text(), STOP)

    def test_length_and_truth(self):
        for text in (*some_texts(20, 5), (), (END,) * 100):
            self.told(len(text), len, Text(text))
            self.told(len(text) > 0, bool, Text(text))

    def test_equal(self):
        for rows in some_texts(20, 5):
            self.told(True, operator.eq, Text(rows), Text(rows))
            self.told(False, operator.ne, Text(rows), Text(rows))
            self.told(False, operator.eq, Text(rows), Text((*rows, STOP)))
            for thing in (*ODD, rows, list(rows), Draft(rows), Gaps(), text_lines(rows)):
                self.told(False, operator.eq, Text(rows), thing)
                self.told(False, operator.eq, thing, Text(rows))
                self.told(True, operator.ne, Text(rows), thing)

    def test_written(self):
        for text in (*some_texts(20, 60), (), (END,) * 100):
            self.told(text_lines(text), str, Text(text))

    def test_it_never_changes(self):
        text = Text(TEXT)
        with self.assertRaises(AttributeError):
            text.rows = ()
        with self.assertRaises(TypeError):
            text[0] = STOP
        rows = list(TEXT)
        made = Text(tuple(rows))
        rows.clear()
        self.assertEqual([text.rows, made.rows], [TEXT, TEXT])
