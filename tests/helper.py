"""What the tests share: the values of the document, odd values, texts, and strict comparisons."""

import random
import unittest

from surelywrong.complaining import complaints_of
from surelywrong.errors import NotUsable

TEXT = (('open', ('fun', 'num')), ('let', 'x', 'num'), ('use', 'x', 'text'), ('let', 'x', 'num'), ('end',),
        ('use', 'x', 'num'))
ALL = ((0, 'falls'), (2, 'use'), (3, 'twice'), (3, 'unused'), (5, 'use'))
STRAY = (('open', 'if'), ('end',), ('end',), ('stop',))
ENDS = (('let', 'x', 'a'), ('end',), ('stop',), ('let', 'x', 'a'), ('give', 'a'))
LET, IF = ('let', 'x', 'a'), ('open', 'if')
WORDS = ('after', 'end', 'falls', 'give', 'open', 'stop', 'twice', 'unused', 'use')


def deep(depth):
    """A tuple and a list in turn, nested so deep."""
    thing = 'x'
    for k in range(depth):
        thing = (thing,) if k % 2 else [thing]
    return thing


# Of every kind that the document calls "any value".
ODD = (
    None, True, False, 0, 1, -1, 7, 10 ** 59, -(10 ** 59), '', 'x', 'let', '-', '0', '3:use', 'end\nstop', ' ',
    (), [], (0,), [0], (1, 0), (0, 0), (True,), (None,), ('end',), ['end'], (('end',),), [('end',)], (['end'],),
    ('let', 'x'), ('let', 'x', ''), ('let', 'x', 'num', 'num'), ('open', 'while'), ('open', ['fun', 'a']),
    (('stop',), ('stop', 'x')), ((0, (('end',),)),), ((0, 'use'),), (0, 'use'), ('fun', 'a'), deep(30), (deep(29), 0),
)


def same(one, other):
    """Whether two values are equal and all their parts are of equal kinds."""
    if type(one) is not type(other):
        return False
    if isinstance(one, (tuple, list)):
        return len(one) == len(other) and all(same(a, b) for a, b in zip(one, other))
    return one == other


def is_gap_set(thing, most):
    """Whether a value is a set of numbers that are at most so great, told apart from the program."""
    return (type(thing) is tuple and all(type(gap) is int and 0 <= gap <= most for gap in thing)
            and list(thing) == sorted(set(thing)))


class Case(unittest.TestCase):
    """Comparisons in which True is not 1, a list no tuple, and arguments stay as they are."""

    def told(self, answer, call, *args, **named):
        """The call returns just this answer, of just this kind, and changes no argument."""
        before = repr((args, named))
        result = call(*args, **named)
        self.assertTrue(same(result, answer), f'{call} {args} {named}: {result!r}, not {answer!r}')
        self.assertEqual(repr((args, named)), before)

    def refused(self, error, fields, call, *args, **named):
        """The call raises just this error, with just these fields in their order."""
        before = repr((args, named))
        with self.assertRaises(error, msg=f'{call} {args!r} {named!r}') as caught:
            call(*args, **named)
        self.assertIs(type(caught.exception), error)
        found = tuple(vars(caught.exception).values())
        self.assertTrue(same(found, fields), f'{call} {args} {named}: {found!r}, not {fields!r}')
        self.assertEqual(repr((args, named)), before)

    def unusable(self, call, **good):
        """Each parameter in turn is told if it is not usable, whatever those behind it are."""
        bad, names = bad_values(), list(good)
        for k, name in enumerate(names):
            later = [bad.get(other, [(None, ())]) for other in names[k + 1:]]
            for j, (thing, fields) in enumerate(bad.get(name, ())):
                args = [*list(good.values())[:k], thing]
                self.refused(NotUsable, fields, call, *args, *list(good.values())[k + 1:])
                self.refused(NotUsable, fields, call, *args, *[wrong[j % len(wrong)][0] for wrong in later])
                self.refused(NotUsable, fields, call, **{**good, name: thing})


END, STOP = (('end',),), (('stop',),)
BAD_TEXTS = ((('end',), ('end', ''), 0), (*TEXT, ['end']), ('end',))
BAD_CARETS = ((2, 7), (7,), (0, True), (2, 0), (2, 2), [2], (2, '4'), (-1, 2), 2)
BAD_COMPLAINTS = ((0, 'use'), (1, 'unused'), (2, 'twice'), (6, 'use'), (False, 'falls'), [2, 'use'], (2, ['use']), (2, 'use', 0),
                  (2, 'uses'), ('2', 'use'), ALL)
BAD_SOMES = (list(ALL), ALL[::-1], (ALL[0], ALL[0]), (*ALL, (7, 'uses')), (*ALL, (7,)), (*ALL, 7), (*ALL, [7, 'use']), ALL[0], (ALL,),
             ((False, 'falls'),), ((-1, 'use'),), (ALL[1], (1, 'let')), ((9, 'use'), (2, 'use')), ((1, ('use',)),))
# Sets of complaints, but not of TEXT: the first one that it does not have.
OTHER_SOMES = ((((0, 'use'),), (0, 'use')), (((1, 'unused'), (2, 'use')), (1, 'unused')), (((10 ** 59, 'use'),), (10 ** 59, 'use')),
               ((*ALL[:2], (3, 'stop'), (99, 'end')), (3, 'stop')))
BAD_WAYS = (((7, END),), ((0, ()),), ((2, END), (0, END)), ((2, END), (2, END)), ((True, END),), [(2, END)], ((2, list(END)),),
            ([2, END],), ((2, (*END, 'end')),), ((2, END), (7, STOP)), (2, END), ((-1, END),), ((2, ('end',)),), ((2, END, 0),))


def bad_values():
    """For each parameter values that are not usable with TEXT, each with the fields of NotUsable that they bring."""
    texts = [thing for thing in (*ODD, list(TEXT)) if type(thing) is not tuple]
    rows = [thing for thing in (*ODD, 6) if type(thing) is not int or not 0 <= thing < 6]
    somes = [thing for thing in (*ODD, *BAD_SOMES) if thing != () and thing != ((0, 'use'),)]
    ways = [thing for thing in (*ODD, *BAD_WAYS) if thing not in ((), ((0, END),))]
    return {
        'text': [*[(thing, ('text', -1)) for thing in texts], *zip(BAD_TEXTS, (('text', 1), ('text', 6), ('text', 0)))],
        'carets': [(thing, ('carets', -1)) for thing in (*ODD, *BAD_CARETS) if not is_gap_set(thing, 6)],
        'row': [(thing, ('row', thing)) for thing in rows],
        'complaint': [(thing, ('complaint', thing)) for thing in (*ODD, *BAD_COMPLAINTS)],
        'some': [*[(thing, ('some', -1)) for thing in somes], *[(thing, ('complaint', one)) for thing, one in OTHER_SOMES]],
        'way': [(thing, ('way', -1)) for thing in ways],
    }


SORTS = ('if', 'if', 'loop', 'loop', ('fun', ''), ('fun', 'a'), ('fun', 'b'), ('fun', 'loop'))
# Names and kinds may be words that rows begin with, too.
NAMES = ('x', 'x', 'x', 'y', 'y', 'end', 'let')
KINDS = ('a', 'a', 'a', 'b', 'b', 'b', 'end', 'open', 'let', 'use', 'stop', 'give')


def some_row(chance):
    """A row, ends and open rows often enough for blocks to be nested and closed."""
    word = chance.choice(('open', 'open', 'end', 'end', 'let', 'let', 'use', 'use', 'stop', 'give'))
    if word == 'open':
        return (word, chance.choice(SORTS))
    if word in ('let', 'use'):
        return (word, chance.choice(NAMES), chance.choice(KINDS))
    if word == 'give':
        return (word, chance.choice(('', *KINDS)))
    return (word,)


def some_texts(many, longest, seed=1):
    """So many texts with at most so many rows; the same ones each time."""
    chance = random.Random(seed)
    return [tuple(some_row(chance) for _ in range(chance.randint(0, longest))) for _ in range(many)]


def some_way(chance, carets, most=4):
    """A way at some of these carets, with up to so many rows at each."""
    told = [(caret, tuple(some_row(chance) for _ in range(chance.randint(0, most)))) for caret in carets]
    return tuple((caret, rows) for caret, rows in told if rows)


def some_carets(chance, text, most=4):
    """A set of up to so many gaps of a text."""
    gaps = range(len(text) + 1)
    return tuple(sorted(chance.sample(gaps, chance.randint(0, min(most, len(gaps))))))


def few_row_texts(most):
    """All texts of at most so many of a few rows."""
    rows = (('open', 'if'), ('open', 'loop'), ('open', ('fun', 'a')), ('end',), ('let', 'x', 'a'), ('use', 'x', 'b'),
            ('stop',), ('give', 'a'))
    texts = last = [()]
    for _ in range(most):
        last = [(*text, row) for text in last for row in rows]
        texts = texts + last
    return texts


def changed(chance, thing):
    """A value with something left out, doubled, put elsewhere or replaced in it, at any depth."""
    if isinstance(thing, tuple) and thing and chance.random() < 0.85:
        k = chance.randrange(len(thing))
        part = thing[k]
        new = chance.choice(((), (part, part), None, None, None, None, None))
        if new is None:
            new = (changed(chance, part),)
        return (*thing[:k], *new, *thing[k + 1:])
    if type(thing) is int and chance.random() < 0.7:
        return thing + chance.choice((-1, 1, 1, 2))
    if type(thing) is str and chance.random() < 0.7:
        return chance.choice((*WORDS, 'a', 'b', '', 'x', 'y', 'name', 'fun', 'goes', 'stays', 'left'))
    if isinstance(thing, tuple) and chance.random() < 0.6:
        return chance.choice((thing[::-1], list(thing), (*thing, 0), (thing,)))
    return chance.choice(ODD)


def small_cases(many, most, seed):
    """Texts with carets and up to so many of their complaints, often with ladders, and of all words."""
    chance = random.Random(seed)
    ahead = [(LET, IF, LET, IF, LET), (LET, ('open', ('fun', 'c')), IF, LET), ()]
    dense = [[('give', 'a'), ('give', 'b'), ('stop',), ('stop',), ('end',)], [('end',), LET, ('use', 'x', 'b'), ('use', 'x', 'c')],
             [IF, ('end',), ('stop',), LET, ('use', 'x', 'a'), ('use', 'x', 'b'), ('give', 'num')]]
    for k in range(many):
        before = ahead[k % 3]
        text = before + tuple(chance.choice(dense[k // 3 % 3]) for _ in range(9)) if k % 5 else some_texts(1, 12, seed=seed + k)[0]
        for carets in ((min(len(before), len(text)),), some_carets(chance, text, 3)):
            complaints = [one for one in complaints_of(text) if one[1] in ('use', 'twice', 'give', 'stop') or chance.random() < 0.4]
            yield text, carets, tuple(sorted(chance.sample(complaints, min(len(complaints), most))))
