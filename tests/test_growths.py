"""Points 30 to 33, with points 6, 10 and 16: growths."""

import operator
import random

from surelywrong.complaining import complaints_of
from surelywrong.errors import NotUsable
from surelywrong.growing import gone_by, grown, new_by
from surelywrong.growths import Growth
from surelywrong.rowchanges import rekinded, renamed
from surelywrong.rowtexts import row_line
from surelywrong.stretching import cause_of, stretch_of
from tests import oracle
from tests.helper import Case, TEXT, bad_values, same, some_carets, some_texts, some_way
from tests.test_growing import PAIRS, WAY
from tests.test_texts import THINGS

IF, LOOP, END, STOP = ('open', 'if'), ('open', 'loop'), ('end',), ('stop',)
LET, USE, GIVE = ('let', 'x', 'a'), ('use', 'x', 'a'), ('give', 'a')


def some_more(chance, growth):
    """A further way of a growth."""
    return some_way(chance, some_carets(chance, growth.rows, 6), 3)


class Examples(Case):

    def test_of_the_document(self):
        growth = Growth(TEXT, WAY) + ((5, (('give', 'num'),)),)
        self.assertTrue(same(
            [growth.way, growth.gone, growth.fresh, len(growth), (2, 'use') in growth, growth == Growth(TEXT, WAY)],
            [((2, (('let', 'x', 'text'),)), (4, (('give', 'num'),))), ((0, 'falls'), (2, 'use')), ((1, 'unused'), (2, 'twice')), 2,
             True, False]))
        self.told('+ let x num\n  use x num', str, Growth((('use', 'x', 'num'),), ((0, (('let', 'x', 'num'),)),)))
        self.refused(NotUsable, ('way', -1), operator.add, growth, ((9, (('end',),)),))


class Properties(Case):

    def test_of_many_ways(self):
        for text, way in PAIRS[::3]:
            growth = Growth(text, way)
            self.told(grown(text, way), lambda growth: growth.rows, growth)
            self.told(way, lambda growth: growth.way, growth)
            self.told(gone_by(text, way), lambda growth: growth.gone, growth)
            self.told(new_by(text, way), lambda growth: growth.fresh, growth)
            self.told(sum(len(rows) for _, rows in way), len, growth)
            for complaint in complaints_of(text):
                self.told(complaint in gone_by(text, way), operator.contains, growth, complaint)

    def test_they_are_only_read(self):
        growth = Growth(text=TEXT, way=WAY)
        for name in ('rows', 'way', 'gone', 'fresh'):
            with self.assertRaises(AttributeError):
                setattr(growth, name, ())

    def test_the_empty_text(self):
        growth = Growth((), ())
        self.assertEqual([growth.rows, growth.way, growth.gone, growth.fresh, len(growth), str(growth)], [(), (), (), (), 0, ''])


class Contents(Case):

    def test_any_value(self):
        growth = Growth((IF, LET, USE, USE), ((1, (END,)),))
        self.assertEqual(growth.gone, ((0, 'open'),))
        self.told(True, operator.contains, growth, (0, 'open'))
        for thing in (*THINGS, growth, (False, 'open'), (0, 'opens'), [0, 'open'], (0, 'open', 0), (0, ['open']), (1, 'open'), ('open', 0)):
            self.told(False, operator.contains, growth, thing)
        growth = Growth((STOP, USE), ((1, (LET,)),))
        self.told(True, operator.contains, growth, (1, 'use'))
        self.told(False, operator.contains, growth, (True, 'use'))


class Equality(Case):

    def test_text_and_way(self):
        growth = Growth(TEXT, WAY)
        self.told(True, operator.eq, growth, Growth(tuple(TEXT), tuple(WAY)))
        self.told(False, operator.ne, growth, Growth(TEXT, WAY))
        self.told(False, operator.eq, growth, Growth(TEXT, ()))
        self.told(True, operator.eq, growth, Growth(TEXT, ()) + WAY)
        # The same grown text, of another text.
        self.told(False, operator.eq, growth, Growth(grown(TEXT, WAY), ()))
        # The same way, of another text.
        self.told(False, operator.eq, growth, Growth(TEXT[:5], WAY))
        self.told(False, operator.eq, Growth((), ()), Growth((STOP,), ()))
        self.told(False, operator.eq, Growth((STOP,), ((0, (STOP,)),)), Growth((STOP,), ((1, (STOP,)),)))
        for thing in (*THINGS, TEXT, WAY, (TEXT, WAY)):
            self.told(False, operator.eq, growth, thing)
            self.told(True, operator.ne, growth, thing)


class Lines(Case):

    def test_of_rows(self):
        self.told('  open fun -\n+ end\n+ give -\n  stop', str, Growth((('open', ('fun', '')), STOP), ((1, (END, ('give', ''))),)))
        self.told('+ stop', str, Growth((), ((0, (STOP,)),)))
        self.told('  stop', str, Growth((STOP,), ()))

    def test_of_many_ways(self):
        for text, way in PAIRS[::5]:
            lines = [('+ ' if old is None else '  ') + row_line(row) for old, row in oracle.tagged(text, way)]
            self.told('\n'.join(lines), str, Growth(text, way))


class Joined(Case):

    def joined(self, text, way, more, expected):
        before = Growth(text, way)
        after = before + more
        self.assertIs(type(after), Growth)
        self.told(expected, lambda after: after.way, after)
        self.told(grown(before.rows, more), lambda after: after.rows, after)
        self.told(way, lambda before: before.way, before)
        self.assertEqual(after, Growth(text, expected))

    def test_ahead_of_among_and_behind(self):
        text = (STOP, STOP)
        self.joined(text, ((1, (LET, USE)),), ((1, (IF,)), (2, (LOOP,)), (3, (END,))), ((1, (IF, LET, LOOP, USE, END)),))
        self.joined(text, ((1, (LET, USE)),), ((0, (IF,)), (4, (END,))), ((0, (IF,)), (1, (LET, USE)), (2, (END,))))
        self.joined(text, ((0, (LET,)), (2, (USE,))), ((0, (IF,)), (1, (LOOP,)), (3, (END,)), (4, (GIVE,))),
                    ((0, (IF, LET, LOOP)), (2, (END, USE, GIVE))))
        self.joined((), ((0, (LET,)),), ((0, (IF,)), (1, (END,))), ((0, (IF, LET, END)),))

    def test_nothing_more_or_nothing_before(self):
        self.joined(TEXT, WAY, (), WAY)
        self.joined(TEXT, (), WAY, WAY)
        self.joined((), (), (), ())

    def test_more_rows_than_sixty(self):
        way = ((0, (IF,) * 90), (6, (END,) * 90))
        self.joined(TEXT, way, ((45, (STOP,)), (96, (LET,)), (186, (USE,) * 200)),
                    ((0, (IF,) * 45 + (STOP,) + (IF,) * 45), (6, (LET,) + (END,) * 90 + (USE,) * 200)))

    def test_many(self):
        chance = random.Random(11)
        for text, way in PAIRS[:150]:
            growth = Growth(text, way)
            more = some_more(chance, growth)
            after = growth + more
            self.told(grown(growth.rows, more), lambda: after.rows)
            self.assertEqual(len(after), len(growth) + sum(len(rows) for _, rows in more))
            self.assertEqual(grown(text, after.way), after.rows)
            last = some_more(chance, after)
            right = Growth(growth.rows, more) + last
            self.assertEqual(after + last, growth + right.way)

    def test_what_is_gone_can_be_there_again(self):
        growth = Growth((USE,), ((0, (LET,)),))
        again = growth + ((1, (('let', 'x', 'b'),)),)
        self.assertEqual([growth.gone, again.gone], [((0, 'use'),), ()])

    def test_no_way(self):
        growth = Growth(TEXT, WAY)
        fitting = [((7, (END,)),), ((2, (END,)), (7, (STOP,)))]
        for thing, fields in bad_values()['way']:
            if thing not in fitting:
                self.refused(NotUsable, fields, operator.add, growth, thing)
        for thing in (*THINGS, growth, (growth,), ((0, growth),), WAY[0]):
            if thing not in ((), ((0, (END,)),)):
                self.refused(NotUsable, ('way', -1), operator.add, growth, thing)
        self.told(8, lambda: len((growth + ((7, (END,)),)).rows))
        self.refused(NotUsable, ('way', -1), operator.add, growth, ((8, (END,)),))
        with self.assertRaises(TypeError):
            WAY + growth


class Wrong(Case):

    def test_what_is_not_usable(self):
        self.unusable(Growth, text=TEXT, way=WAY)
        self.refused(NotUsable, ('way', -1), Growth, TEXT, Growth(TEXT, WAY))
        self.refused(NotUsable, ('way', -1), Growth, TEXT, ((7, (END,)),))


class Exchanged(Case):

    NAMES = (('x', 'y'), ('y', 'end'), ('end', 'let'), ('let', 'x'))
    KINDS = (('a', 'open'), ('open', 'b'), ('b', 'a'), ('let', 'z'))

    def test_names_and_kinds(self):
        for change, pairs in ((renamed, self.NAMES), (rekinded, self.KINDS)):
            for text, way in PAIRS[:100]:
                other = change(text, *pairs)
                turned = tuple((gap, change(rows, *pairs)) for gap, rows in way)
                self.assertEqual(complaints_of(other), complaints_of(text))
                for complaint in complaints_of(text):
                    self.assertEqual(cause_of(other, complaint), cause_of(text, complaint))
                    self.assertEqual(stretch_of(other, complaint), stretch_of(text, complaint))
                self.assertEqual(Growth(other, turned).gone, Growth(text, way).gone)
                self.assertEqual(Growth(other, turned).fresh, Growth(text, way).fresh)


class Beside(Case):

    def test_between_an_open_row_and_an_end(self):
        for text in some_texts(400, 9, seed=12):
            if not [word for _, word in complaints_of(text) if word in ('open', 'end')]:
                self.told(tuple((row + 1, word) for row, word in complaints_of(text)), complaints_of, (IF, *text, END))

    def test_with_an_end_row_between(self):
        texts = some_texts(120, 9, seed=13)
        for one, other in zip(texts, texts[1:]):
            if not [word for _, word in complaints_of(one) if word == 'open']:
                later = tuple((len(one) + 1 + row, word) for row, word in complaints_of(other))
                self.told((*complaints_of(one), (len(one), 'end'), *later), complaints_of, (*one, END, *other))
