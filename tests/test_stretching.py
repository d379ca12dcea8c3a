"""Points 25 and 26, with points 5, 7 and 10: causes and stretches."""

from surelywrong.complaining import complaints_of
from surelywrong.errors import NotUsable
from surelywrong.finding import function_of, let_found, reign_of
from surelywrong.stretching import cause_of, stretch_of
from tests import oracle
from tests.helper import ALL, Case, ENDS, STRAY, TEXT, WORDS, few_row_texts, some_texts

BOTH = (*few_row_texts(3), *some_texts(200, 25, seed=6), *some_texts(10, 60, seed=7), TEXT, STRAY, ENDS)
FUN, LOOP, IF, END, STOP = ('open', ('fun', 'a')), ('open', 'loop'), ('open', 'if'), ('end',), ('stop',)
LET, USE, GIVE, OTHER = ('let', 'x', 'a'), ('use', 'x', 'a'), ('give', 'a'), ('let', 'x', 'b')


class Examples(Case):

    def test_of_the_document(self):
        self.assertEqual([(cause_of(TEXT, complaint), stretch_of(TEXT, complaint)) for complaint in ALL],
                         [(0, (1, 4)), (1, (2, 2)), (1, (2, 3)), (3, (4, 4)), (-1, (0, 5))])
        self.refused(NotUsable, ('complaint', (1, 'unused')), cause_of, TEXT, (1, 'unused'))


class Words(Case):

    def just(self, text, complaint, cause, stretch):
        self.told(cause, cause_of, text, complaint)
        self.told(stretch, stretch_of, text, complaint)

    def test_use(self):
        self.just((USE,), (0, 'use'), -1, (0, 0))
        self.just((STOP, IF, USE, LET), (2, 'use'), -1, (0, 2))
        self.just((LET, OTHER, USE, END), (2, 'use'), 1, (2, 2))
        self.just((OTHER, IF, ('let', 'y', 'a'), USE), (3, 'use'), 0, (1, 3))
        self.just((OTHER, IF, LET, END, USE), (4, 'use'), 0, (1, 4))
        self.just((LET, END, OTHER, STOP, USE), (4, 'use'), 2, (3, 4))
        self.just((LET, END, STOP, USE), (3, 'use'), -1, (0, 3))

    def test_unused(self):
        self.just((LET,), (0, 'unused'), 0, (1, 1))
        self.just((LET, IF, LET, END, OTHER, USE), (0, 'unused'), 0, (1, 4))
        self.just((IF, LET, STOP, END, USE), (1, 'unused'), 1, (2, 3))
        self.just((END, LET, STOP, END, LET), (1, 'unused'), 1, (2, 3))
        self.just((LET, IF, END, STOP), (0, 'unused'), 0, (1, 4))
        self.just((IF, LET, STOP), (1, 'unused'), 1, (2, 3))

    def test_twice(self):
        self.just((LET, OTHER, STOP, LET), (3, 'twice'), 1, (2, 3))
        self.just((LET, IF, LET, END, OTHER), (4, 'twice'), 0, (1, 4))
        self.just((LET, END, LET, IF, LET, LET), (5, 'twice'), 4, (5, 5))
        self.just((LET, ('let', 'y', 'a'), LET), (2, 'twice'), 0, (1, 2))

    def test_stop(self):
        self.just((STOP,), (0, 'stop'), -1, (0, 0))
        self.just((LOOP, FUN, IF, STOP), (3, 'stop'), 1, (2, 3))
        self.just((FUN, END, LET, STOP), (3, 'stop'), -1, (0, 3))
        self.just((FUN, FUN, END, IF, STOP, END, END), (4, 'stop'), 0, (1, 4))

    def test_give(self):
        self.just((GIVE,), (0, 'give'), -1, (0, 0))
        self.just((FUN, LOOP, LET, ('give', 'b')), (3, 'give'), 0, (1, 3))
        self.just((FUN, FUN, END, ('give', '')), (3, 'give'), 0, (1, 3))
        self.just((FUN, END, END, GIVE), (3, 'give'), -1, (0, 3))

    def test_after(self):
        self.just((STOP, GIVE, LET), (2, 'after'), 1, (2, 2))
        self.just((STOP, IF, GIVE, END, LET), (4, 'after'), 0, (1, 4))
        self.just((STOP, IF, GIVE, STOP, IF, END, END), (4, 'after'), 3, (4, 4))
        self.just((STOP, END, STOP, LET, LET), (4, 'after'), 2, (3, 4))

    def test_falls(self):
        self.just((FUN,), (0, 'falls'), 0, (1, 1))
        self.just((FUN, IF, END, END, STOP), (0, 'falls'), 0, (1, 3))
        self.just((STOP, FUN, IF, GIVE), (1, 'falls'), 1, (2, 4))

    def test_open(self):
        self.just((IF,), (0, 'open'), 0, (1, 1))
        self.just((IF, LOOP, END, END, FUN, IF, END), (4, 'open'), 4, (5, 7))

    def test_end(self):
        self.just((END,), (0, 'end'), -1, (0, 0))
        self.just((IF, END, END, STOP, END), (2, 'end'), -1, (0, 2))
        self.just((IF, END, END, STOP, END), (4, 'end'), -1, (0, 4))


class Compared(Case):

    def test_with_the_definitions(self):
        seen = {}
        for text in BOTH:
            for complaint in complaints_of(text):
                self.told(oracle.cause(text, *complaint), cause_of, text, complaint)
                self.told(oracle.stretch(text, *complaint), stretch_of, text, complaint)
                seen[complaint[1], cause_of(text, complaint) < 0] = True
        bare = [(word, True) for word in ('end', 'give', 'stop', 'use')]
        caused = [(word, False) for word in WORDS if word != 'end']
        self.assertEqual(sorted(seen), sorted(bare + caused))

    def test_what_follows(self):
        for text in BOTH:
            for row, word in complaints_of(text):
                cause, (first, last) = cause_of(text, (row, word)), stretch_of(text, (row, word))
                self.assertEqual(first, cause + 1)
                self.assertTrue(0 <= first <= last <= len(text))
                if word == 'unused':
                    self.assertEqual((first, last), reign_of(text, row))
                if word == 'use' and cause >= 0:
                    self.assertEqual(cause, let_found(text, row))
                    self.assertNotEqual(text[cause][2], text[row][2])
                if word == 'give' and cause >= 0:
                    self.assertEqual(cause, function_of(text, row))
                    self.assertNotEqual(text[cause][1], ('fun', text[row][1]))

    def test_texts_that_begin_alike(self):
        backward = ('after', 'end', 'give', 'stop', 'twice', 'use')
        for text in some_texts(60, 20, seed=8):
            for complaint in complaints_of(text):
                if complaint[1] in backward:
                    for more in ((), (END, LET, USE), (GIVE, FUN, STOP)):
                        other = (*text[:complaint[0] + 1], *more)
                        self.told(cause_of(text, complaint), cause_of, other, complaint)
                        self.told(stretch_of(text, complaint), stretch_of, other, complaint)

    def test_by_name(self):
        self.told(1, cause_of, text=TEXT, complaint=(3, 'twice'))
        self.told((2, 3), stretch_of, complaint=(3, 'twice'), text=TEXT)


class Wrong(Case):

    def test_what_is_not_usable(self):
        for call in (cause_of, stretch_of):
            self.unusable(call, text=TEXT, complaint=(2, 'use'))
        self.refused(NotUsable, ('complaint', (0, 'end')), stretch_of, (), (0, 'end'))
