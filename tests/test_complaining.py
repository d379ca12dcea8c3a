"""Points 23 and 24, with points 3, 4, 5 and 10: the complaints of a text."""

import inspect

from surelywrong.complaining import complaints_by, complaints_of, words_at
from surelywrong.errors import NotUsable
from tests import oracle
from tests.helper import ALL, Case, ENDS, ODD, STRAY, TEXT, WORDS, few_row_texts, some_texts

BOTH = (*few_row_texts(3), *some_texts(200, 25, seed=4), *some_texts(10, 60, seed=5), TEXT, STRAY, ENDS)
FUN, LOOP, IF, END, STOP = ('open', ('fun', 'a')), ('open', 'loop'), ('open', 'if'), ('end',), ('stop',)
LET, USE, GIVE = ('let', 'x', 'a'), ('use', 'x', 'a'), ('give', 'a')


class Examples(Case):

    def test_of_the_document(self):
        self.told(ALL, complaints_of, TEXT)
        self.assertEqual([complaints_of(TEXT) == ALL, words_at(TEXT, 3), words_at(TEXT, 4)], [True, ('twice', 'unused'), ()])
        self.told([(3, ('twice', 'unused')), (5, ('use',))], lambda: list(complaints_by(TEXT))[2:])
        self.told(((0, 'unused'), (1, 'end'), (2, 'stop'), (3, 'after'), (3, 'unused'), (4, 'after'), (4, 'give')),
                  complaints_of, ENDS)


class Words(Case):

    def just(self, word, text, *rows):
        """These rows of the text are those with a complaint of this word."""
        self.assertEqual([row for row, told in complaints_of(text) if told == word], list(rows), text)

    def test_use(self):
        self.just('use', (USE,), 0)
        self.just('use', (LET, USE))
        self.just('use', (USE, LET), 0)
        self.just('use', (LET, ('let', 'x', 'b'), USE), 2)
        self.just('use', (('let', 'x', 'b'), IF, LET, USE, END, USE), 5)
        self.just('use', (LET, END, USE), 2)
        self.just('use', (LET, ('use', 'y', 'a')), 1)
        self.just('use', (LET, FUN, USE))

    def test_unused(self):
        self.just('unused', (LET, USE))
        self.just('unused', (LET, ('use', 'x', 'b')))
        self.just('unused', (LET, LET, USE), 0)
        self.just('unused', (LET, USE, LET, IF, LET), 2, 4)
        self.just('unused', (LET, END, USE), 0)
        self.just('unused', (LET, IF, LET, USE), 0)

    def test_twice(self):
        self.just('twice', (LET, ('let', 'x', 'b'), LET), 1, 2)
        self.just('twice', (LET, IF, LET, END, LET), 4)
        self.just('twice', (LET, END, LET))
        self.just('twice', (LET, ('let', 'y', 'a')))
        self.just('twice', (IF, LET, END, IF, LET, END))

    def test_stop(self):
        self.just('stop', (STOP,), 0)
        self.just('stop', (LOOP, IF, STOP, END, END, STOP), 5)
        self.just('stop', (LOOP, FUN, STOP, LOOP, STOP, END, END, STOP), 2)
        self.just('stop', (FUN, LOOP, STOP))
        self.just('stop', (LOOP, END, STOP), 2)

    def test_give(self):
        self.just('give', (GIVE,), 0)
        self.just('give', (('give', ''),), 0)
        self.just('give', (FUN, GIVE, ('give', ''), ('give', 'b')), 2, 3)
        self.just('give', (('open', ('fun', '')), ('give', ''), GIVE), 2)
        self.just('give', (FUN, LOOP, IF, GIVE, END, END, END, GIVE), 7)
        self.just('give', (FUN, ('open', ('fun', 'b')), GIVE, END, GIVE), 2)

    def test_after(self):
        self.just('after', (STOP, END, LET))
        self.just('after', (STOP, LET, IF, LET, END, END), 1, 2)
        self.just('after', (GIVE, STOP, GIVE), 1, 2)
        self.just('after', (IF, STOP, END, LET))
        self.just('after', (LET, GIVE))
        self.just('after', (STOP, IF, IF), 1)

    def test_falls(self):
        self.just('falls', (FUN,), 0)
        self.just('falls', (FUN, GIVE))
        self.just('falls', (FUN, ('give', 'b'), END))
        self.just('falls', (FUN, IF, GIVE, END, END), 0)
        self.just('falls', (FUN, END, GIVE), 0)
        self.just('falls', (('open', ('fun', '')), END, IF, END, LOOP))
        self.just('falls', (FUN, FUN, GIVE, END), 0)

    def test_open(self):
        self.just('open', (IF, LOOP, FUN, END), 0, 1)
        self.just('open', (IF, END, END, IF), 3)

    def test_end(self):
        self.just('end', (END, END), 0, 1)
        self.just('end', (IF, END, END, IF, END), 2)

    def test_several_at_one_row(self):
        text = (STOP, FUN)
        self.told(('stop',), words_at, text=text, row=0)
        self.told(('after', 'falls', 'open'), words_at, text, 1)
        self.told((), complaints_of, text=())


class Compared(Case):

    def test_with_the_definitions(self):
        seen = {}
        for text in BOTH:
            expected = oracle.complaints(text, WORDS)
            self.told(expected, complaints_of, text)
            by_row = [tuple(word for row, word in expected if row == at) for at in range(len(text))]
            for row, words in enumerate(by_row):
                self.told(words, words_at, text, row)
            pairs = [(row, words) for row, words in enumerate(by_row) if words]
            self.told(pairs, lambda text: list(complaints_by(text)), text)
            seen.update({word: True for _, word in expected})
        self.assertEqual(sorted(seen), sorted(WORDS))

    def test_sixty_rows_and_more(self):
        deep = (FUN,) * 30 + (END,) * 30
        self.told(tuple((row, 'falls') for row in range(30)), complaints_of, deep)
        long = (LET, USE) * 30
        self.told(tuple((row, 'twice') for row in range(2, 60, 2)), complaints_of, long)
        self.assertEqual(len(complaints_of((IF,) * 500)), 500)


class Generators(Case):

    def test_one_by_one(self):
        pairs = complaints_by(text=TEXT)
        self.assertTrue(inspect.isgenerator(pairs))
        self.told((0, ('falls',)), next, pairs)
        self.told((2, ('use',)), next, pairs)
        self.told([], lambda: list(complaints_by(())))

    def test_errors_come_with_the_first_one(self):
        for thing, k in ((None, -1), ([], -1), ((END, 'end'), 1)):
            pairs = complaints_by(thing)
            self.refused(NotUsable, ('text', k), next, pairs)


class Wrong(Case):

    def test_texts(self):
        for thing in ODD:
            if type(thing) is not tuple:
                self.refused(NotUsable, ('text', -1), complaints_of, thing)
                self.refused(NotUsable, ('text', -1), words_at, thing, None)
                self.refused(NotUsable, ('text', -1), lambda thing: list(complaints_by(thing)), thing)
        self.refused(NotUsable, ('text', 0), complaints_of, ('end',))
        self.refused(NotUsable, ('text', 6), complaints_of, (*TEXT, ('end', '')))

    def test_rows(self):
        for thing in (*ODD, 6):
            if type(thing) is not int or not 0 <= thing < 6:
                self.refused(NotUsable, ('row', thing), words_at, TEXT, thing)
        self.refused(NotUsable, ('row', 0), words_at, (), 0)
        self.refused(NotUsable, ('text', 1), words_at, (END, None), 9)
