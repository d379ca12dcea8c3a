"""Points 37 to 39, with points 8 and 10: ladders."""

import inspect

from surelywrong.complaining import complaints_of
from surelywrong.errors import NotUsable
from surelywrong.laddering import a_ladder, how_many_ladders, is_ladder, ladders_of
from surelywrong.sureness import held_ones
from tests import oracle
from tests.helper import ALL, Case, ENDS, STRAY, TEXT, few_row_texts, small_cases

RUNGS = ((2, 'use'), (3, 'twice'), (5, 'use'))
GIVES = (('give', 'num'), ('stop',), ('stop',), ('end',), ('give', 'text'), ('give', ''))
HELD = ((0, 'give'), (1, 'stop'), (2, 'stop'), (4, 'give'), (5, 'give'))
IF, END, STOP, LET, USE, OTHER = ('open', 'if'), ('end',), ('stop',), ('let', 'x', 'a'), ('use', 'x', 'a'), ('use', 'x', 'b')
# Behind gap 5 there are four layers, and in three of them the let of x is there twice.
LAYERS = (LET, IF, LET, IF, LET, ('use', 'x', 'c'), LET, END, LET, END, OTHER, LET, END, OTHER)


def listed(text, carets, some):
    return list(ladders_of(text, carets, some))


class Examples(Case):

    def test_of_the_document(self):
        self.assertEqual([is_ladder(TEXT, (2,), RUNGS), is_ladder(TEXT, (2,), ALL), a_ladder(TEXT, (2,), ALL) == RUNGS,
                          a_ladder(TEXT, (2, 4), ALL)], [True, False, True, ()])
        self.assertEqual([how_many_ladders(GIVES, (0,), HELD), how_many_ladders(GIVES, (0, 4), HELD)], [5, 1])
        self.assertEqual(listed(GIVES, (0,), HELD)[:2],
                         [((0, 'give'), (1, 'stop'), (4, 'give')), ((0, 'give'), (1, 'stop'), (5, 'give'))])


class Names(Case):

    def test_without_links(self):
        text = (USE, OTHER, ('use', 'y', 'b'), USE)
        self.told(True, is_ladder, text, (0,), ((0, 'use'), (1, 'use')))
        self.told(True, is_ladder, text, (0,), ((1, 'use'), (3, 'use')))
        self.told(False, is_ladder, text, (0,), ((0, 'use'), (3, 'use')))
        self.told(False, is_ladder, text, (0,), ((0, 'use'), (2, 'use')))
        self.told(False, is_ladder, text, (0,), ((0, 'use'), (1, 'use'), (3, 'use')))
        self.told(False, is_ladder, text, (0, 1), ((0, 'use'), (1, 'use')))
        self.told(True, is_ladder, text, (0, 2), ((0, 'use'), (1, 'use')))
        self.told(False, is_ladder, text, (1, 2), ((0, 'use'), (1, 'use')))
        self.told(2, how_many_ladders, text, (0,), complaints_of(text))
        self.told([((0, 'use'), (1, 'use')), ((1, 'use'), (3, 'use'))], listed, text, (0,), complaints_of(text))

    def test_of_several_links(self):
        first, *links, last = (5, 'use'), (6, 'twice'), (8, 'twice'), (11, 'twice'), (13, 'use')
        for ladder in ((first, *links, last), (first, *links[:2], (10, 'use'))):
            self.told(True, is_ladder, LAYERS, (5,), ladder)
            self.told(ladder, a_ladder, LAYERS, (5,), ladder)
            self.told(False, is_ladder, LAYERS, (5, 9), ladder)
            for k in range(len(ladder)):
                self.told(False, is_ladder, LAYERS, (5,), (*ladder[:k], *ladder[k + 1:]))
                self.told((), a_ladder, LAYERS, (5,), (*ladder[:k], *ladder[k + 1:]))
        # A link more than the ladder needs.
        self.told(False, is_ladder, LAYERS, (5,), (first, *links[:2], (10, 'use'), links[2]))
        self.told(2, how_many_ladders, LAYERS, (5,), complaints_of(LAYERS))
        self.told([(first, *links[:2], (10, 'use')), (first, *links, last)], listed, LAYERS, (5,), complaints_of(LAYERS))

    def test_a_link_of_another_name(self):
        text = (('let', 'y', 'a'), IF, ('let', 'y', 'a'), USE, ('let', 'y', 'a'), END, OTHER)
        self.told(False, is_ladder, text, (3,), ((3, 'use'), (4, 'twice'), (6, 'use')))
        self.told((), a_ladder, text, (3,), complaints_of(text))

    def test_end_rows_of_blocks_of_the_segment_part_no_layers(self):
        text = (IF, USE, END, OTHER)
        self.told(True, is_ladder, text, (0,), ((1, 'use'), (3, 'use')))
        self.told(False, is_ladder, text, (1,), ((1, 'use'), (3, 'use')))

    def test_end_rows_of_grounds(self):
        text = (LET, USE, LET, END, OTHER)
        some = ((2, 'twice'), (4, 'use'))
        self.told((), a_ladder, text, (1,), some)
        text = (('let', 'x', 'b'), USE, LET, END, OTHER)
        self.told(True, is_ladder, text, (1,), ((1, 'use'), (2, 'twice'), (4, 'use')))
        self.told(False, is_ladder, text, (1, 4), ((1, 'use'), (2, 'twice'), (4, 'use')))
        self.told(False, is_ladder, text, (0,), ((1, 'use'), (2, 'twice'), (4, 'use')))


class Functions(Case):

    def test_links_to_choose_from(self):
        for some in (((0, 'give'), (1, 'stop'), (4, 'give')), ((0, 'give'), (2, 'stop'), (5, 'give')), ((4, 'give'), (5, 'give'))):
            self.told(True, is_ladder, GIVES, (0,), some)
        for some in (((0, 'give'), (4, 'give')), ((0, 'give'), (1, 'stop'), (2, 'stop'), (4, 'give')), HELD, HELD[:3], ((1, 'stop'),),
                     ((0, 'give'), (1, 'stop'), (4, 'give'), (5, 'give')), ((1, 'stop'), (4, 'give'), (5, 'give')), ()):
            self.told(False, is_ladder, GIVES, (0,), some)
        self.told([((0, 'give'), (1, 'stop'), (4, 'give')), ((0, 'give'), (1, 'stop'), (5, 'give')),
                   ((0, 'give'), (2, 'stop'), (4, 'give')), ((0, 'give'), (2, 'stop'), (5, 'give')), ((4, 'give'), (5, 'give'))],
                  listed, GIVES, (0,), HELD)

    def test_gives_of_one_kind(self):
        text = (('give', ''), ('give', ''), ('give', 'a'))
        some = tuple((row, 'give') for row in range(3))
        self.told([(some[0], some[2]), (some[1], some[2])], listed, text, (0,), some)

    def test_sure_ones_are_in_no_ladder(self):
        text = (('open', ('fun', 'a')), ('give', 'b'), ('open', ('fun', 'a')), ('give', 'c'), ('give', 'd'))
        some = ((1, 'give'), (3, 'give'), (4, 'give'))
        self.told((some[1], some[2]), a_ladder, text, (1, 3), some)
        self.told((), a_ladder, text, (1,), some)
        self.told(False, is_ladder, text, (1,), some[1:])
        self.told(True, is_ladder, text, (3,), some[1:])
        self.told(False, is_ladder, text, (3,), some)

    def test_a_name_and_functions_do_not_mix(self):
        text = (('give', 'a'), USE, ('give', 'b'))
        self.told(True, is_ladder, text, (0,), ((0, 'give'), (2, 'give')))
        self.told(False, is_ladder, text, (0,), ((0, 'give'), (1, 'use'), (2, 'give')))
        self.told(False, is_ladder, text, (0,), ((0, 'give'), (1, 'use')))
        # A link of a name does not tie gives, nor a stop uses.
        text = (LET, ('give', 'a'), LET, END, ('give', 'b'))
        self.told(False, is_ladder, text, (1,), ((1, 'give'), (2, 'twice'), (4, 'give')))
        text = (USE, STOP, END, OTHER)
        self.told(False, is_ladder, text, (0,), ((0, 'use'), (1, 'stop'), (3, 'use')))

    def test_another_word_beside(self):
        text = (('give', 'a'), ('give', 'b'))
        self.told(((0, 'give'), (1, 'after'), (1, 'give')), complaints_of, text)
        self.told(False, is_ladder, text, (0, 1), complaints_of(text))
        self.told(((0, 'give'), (1, 'give')), a_ladder, text, (0,), complaints_of(text))


class Numbers(Case):

    def test_greater_than_can_be_listed(self):
        text = (('give', 'a'), *[STOP, STOP, STOP, END] * 14, ('give', 'b'), ('give', 'b'))
        some = tuple(one for one in complaints_of(text) if one[1] in ('give', 'stop'))
        self.told(2 * 3 ** 14, how_many_ladders, text, (0,), some)
        self.told(0, how_many_ladders, text, (), some)
        ladder = a_ladder(text, (0,), some)
        self.assertTrue(is_ladder(text, (0,), ladder))
        self.assertEqual(len(ladder), 16)
        # Without a stop in one of the layers there is no ladder, but many beginnings of ladders.
        bare = tuple(one for one in some if not 53 <= one[0] <= 55)
        self.told(0, how_many_ladders, text, (0,), bare)
        self.told([], listed, text, (0,), bare)
        self.told((), a_ladder, text, (0,), bare)

    def test_sixty_rows(self):
        kinds = 'abcdefghij'
        text = tuple(('use', 'x', kinds[k % 10]) for k in range(60))
        some = complaints_of(text)
        self.told(60 * 54 // 2, how_many_ladders, text, (0,), some)
        self.told(0, how_many_ladders, text, (), some)
        self.assertEqual(listed(text, (0,), some[:24])[0], ((0, 'use'), (1, 'use')))
        self.assertEqual(len(listed(text, (0,), some[:24])), how_many_ladders(text, (0,), some[:24]))
        layered = (*[row for k in range(20) for row in (('give', kinds[k % 10]), STOP, END)],)
        some = complaints_of(layered)
        pairs = [(low, high) for low in range(20) for high in range(low + 1, 20) if (high - low) % 10]
        self.told(len(pairs), how_many_ladders, layered, (0,), some)
        self.assertEqual([len(ladder) for ladder in listed(layered, (0,), some)][:3], [3, 4, 5])

    def test_generators(self):
        ladders = ladders_of(text=GIVES, carets=(0,), some=HELD)
        self.assertTrue(inspect.isgenerator(ladders))
        self.told(((0, 'give'), (1, 'stop'), (4, 'give')), next, ladders)
        self.assertEqual(len(list(ladders)), 4)
        self.refused(NotUsable, ('some', -1), next, ladders_of(GIVES, (0,), list(HELD)))

    def test_by_name(self):
        self.told(True, is_ladder, some=RUNGS, carets=(2,), text=TEXT)
        self.told(RUNGS, a_ladder, text=TEXT, carets=(2,), some=RUNGS)
        self.told(1, how_many_ladders, text=TEXT, carets=(2,), some=RUNGS)


def some_cases():
    """Texts with carets and up to nine of their complaints."""
    for k, text in enumerate((TEXT, STRAY, ENDS, LAYERS, *few_row_texts(2))):
        for carets in ((k % (len(text) + 1),), (0, len(text)) if text else ()):
            yield text, carets, complaints_of(text)[:9]
    yield from small_cases(300, 9, seed=22)


class Compared(Case):

    def test_with_the_definitions(self):
        seen = {}
        for text, carets, some in some_cases():
            ladders = oracle.ladders(text, carets, some)
            self.told(ladders, listed, text, carets, some)
            self.told(len(ladders), how_many_ladders, text, carets, some)
            self.assertIn(a_ladder(text, carets, some), ladders or [()])
            for part in ladders:
                self.told(True, is_ladder, text, carets, part)
                words = [word for _, word in part]
                seen['use' in words, len(part)] = True
            self.told(some in ladders, is_ladder, text, carets, some)
        self.assertTrue({(True, 2), (True, 3), (False, 2), (False, 3), (False, 4)} <= set(seen), sorted(seen))

    def test_parts_of_ladders_and_carets_more(self):
        for text, carets, some in some_cases():
            for ladder in oracle.ladders(text, carets, some):
                words = [word for _, word in ladder]
                self.assertIn(2, (words.count('use'), words.count('give')))
                self.told((), a_ladder, text, carets, ladder[1:])
                for gap in range(ladder[0][0] + 1, ladder[-1][0] + 1):
                    self.told(False, is_ladder, text, tuple(sorted({*carets, gap})), ladder)

    def test_one_complaint_more(self):
        for text, carets, some in some_cases():
            for ladder in oracle.ladders(text, carets, some)[:2]:
                for other in held_ones(text, carets):
                    if other not in ladder:
                        self.told(False, is_ladder, text, carets, tuple(sorted([*ladder, other])))


class Wrong(Case):

    def test_what_is_not_usable(self):
        for call in (is_ladder, a_ladder, listed, how_many_ladders):
            self.unusable(call, text=TEXT, carets=(2, 4), some=ALL)

    def test_the_first_complaint_that_is_none(self):
        self.refused(NotUsable, ('complaint', (1, 'unused')), a_ladder, TEXT, (2,), ((0, 'falls'), (1, 'unused'), (1, 'use')))
