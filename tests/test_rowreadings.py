"""Point 17, with points 3, 5 and 16: lines read."""

import random
import re

from surelywrong.errors import InvalidText, NotUsable
from surelywrong.rowreadings import complaint_read, gaps_read, row_read, text_read
from surelywrong.rowtexts import complaint_word, gaps_words, row_line, text_lines
from tests.helper import Case, ODD, TEXT, WORDS, few_row_texts, some_texts
from tests.test_rowtexts import LINES

NAME = '[a-z]{1,8}'
KIND = f'-|{NAME}'
FORMS = (('open', 'if|loop'), ('open', 'fun', KIND), ('end',), ('let|use', NAME, NAME), ('stop',), ('give', KIND))
NUMBER = '0|[1-9][0-9]{0,59}'
SIGNS = ' -\n:x0A'


def fits(words, form):
    return len(words) <= len(form) and all(re.fullmatch(part, word) for word, part in zip(words, form))


def fault(words, forms):
    """The first word with which no form can begin, or the number of words if one is missing, or None."""
    for field in range(len(words)):
        if not any(fits(words[:field + 1], form) for form in forms):
            return field
    return None if any(fits(words, form) and len(words) == len(form) for form in forms) else len(words)


def changed(string, signs=SIGNS):
    """The string with each sign left out, doubled, and others put in and in its place, and so with each word."""
    for at in range(len(string) + 1):
        for sign in signs:
            yield string[:at] + sign + string[at:]
            yield string[:at] + sign + string[at + 1:]
        yield string[:at] + string[at + 1:]
        yield string[:at + 1] + string[at:]
    words = string.split(' ')
    for at in range(len(words)):
        for instead in ((), (words[at],) * 2, ('fun', words[at]), ('end',), ('-',), ('',), ('if',), ('abcdefghi',)):
            yield ' '.join([*words[:at], *instead, *words[at + 1:]])
    yield from (string + ' ', ' ' + string, string + '\n', '\n' + string, string.upper(), string + ' ' + string)


class Examples(Case):

    def test_of_the_document(self):
        self.told((('open', ('fun', '')), ('let', 'end', 'num'), ('end',)), text_read, 'open fun -\nlet end num\nend')
        self.told(('give', ''), row_read, 'give -')
        self.told((), gaps_read, '-')
        self.refused(InvalidText, (1, 2), text_read, 'stop\nopen fun')


class Rows(Case):

    def test_each_written_row(self):
        for row, line in LINES.items():
            self.told(row, row_read, line)
            self.told(row, row_read, line=row_line(row))

    def test_edges(self):
        for line, field in (
                ('', 0), (' ', 0), ('\n', 0), ('end ', 1), (' end', 0), ('end\n', 0), ('end end', 1), ('stop x', 1), ('END', 0),
                ('open', 1), ('open ', 1), ('open fun', 2), ('open fun ', 2), ('open fun  ', 2), ('open if -', 2),
                ('open loop fun a', 2), ('open fun - -', 3), ('open fun a b', 3), ('open while', 1), ('open fun A', 2),
                ('open if\n', 1), ('open fun -\n', 2), ('open\nif', 0), ('open -', 1), ('-', 0), ('let', 1), ('let x', 2),
                ('let  num', 1), ('let x ', 2), ('let - num', 1), ('let x -', 2), ('use x -', 2), ('use x num ', 3),
                ('use x num x', 3), ('use 1 -', 1), ('let abcdefghi a', 1), ('let a abcdefghi', 2), ('give', 1), ('give ', 1),
                ('give - -', 2), ('give a b', 2), ('give --', 1), ('give 0', 1), ('close 0', 0), ('lets x num', 0)):
            self.refused(InvalidText, (0, field), row_read, line)

    def test_each_change_of_a_line(self):
        for written in LINES.values():
            for line in changed(written):
                words = line.split(' ')
                field = fault(words, FORMS)
                if field is None:
                    self.told(line, row_line, row_read(line))
                else:
                    self.refused(InvalidText, (0, field), row_read, line)

    def test_no_strings(self):
        for thing in (*ODD, ('end',), ['end']):
            if type(thing) is not str:
                self.refused(NotUsable, ('line', -1), row_read, thing)


class Texts(Case):

    def test_each_written_text(self):
        for text in (*few_row_texts(3), *some_texts(60, 60), TEXT):
            self.told(text, text_read, text_lines(text))
        self.told((('stop',),), text_read, lines='stop')
        self.told((('end',),) * 400, text_read, '\n'.join(['end'] * 400))

    def test_lines(self):
        self.told((), text_read, '')
        for lines, line, field in (
                ('\n', 0, 0), (' ', 0, 0), ('stop\n', 1, 0), ('\nstop', 0, 0), ('stop\n\nstop', 1, 0), ('stop\nstop ', 1, 1),
                ('stop \nstop', 0, 1), ('stop\n stop', 1, 0), ('stop\nlet x\nfoo', 1, 2), ('open\nif', 0, 1), ('give\n-', 0, 1),
                ('end\nend\ngive - -\nfoo', 2, 2), ('-', 0, 0), ('end\n-', 1, 0)):
            self.refused(InvalidText, (line, field), text_read, lines)

    def test_each_change_of_a_text(self):
        chance, faults = random.Random(5), {}
        for text in some_texts(60, 12, seed=7):
            everything = list(changed(text_lines(text)))
            for lines in chance.sample(everything, min(300, len(everything))):
                found = [fault(line.split(' '), FORMS) for line in lines.split('\n')] if lines else []
                wrong = [(line, field) for line, field in enumerate(found) if field is not None]
                if wrong:
                    self.refused(InvalidText, wrong[0], text_read, lines)
                    faults[wrong[0]] = True
                else:
                    self.told(lines, text_lines, text_read(lines))
        self.assertGreater(len(faults), 20)

    def test_no_strings(self):
        for thing in (*ODD, ['end'], (('end',),)):
            if type(thing) is not str:
                self.refused(NotUsable, ('lines', -1), text_read, thing)


def gaps_fault(words):
    """As fault, for the words of a set of numbers."""
    if words[0] == '-':
        return 1 if len(words) > 1 else None
    last = -1
    for field, word in enumerate(words):
        if not re.fullmatch(NUMBER, word) or int(word) <= last:
            return field
        last = int(word)
    return None


class Gaps(Case):

    def test_each_written_set(self):
        for gaps in ((), (0,), (7,), (0, 1), (0, 9, 10, 11, 100), (10 ** 59, 10 ** 60 - 1), tuple(range(61))):
            self.told(gaps, gaps_read, gaps_words(gaps))
            self.told(gaps, gaps_read, words=gaps_words(gaps))

    def test_edges(self):
        for words, field in (
                ('', 0), (' ', 0), ('\n', 0), ('- ', 1), ('- 0', 1), ('- -', 1), ('0 -', 1), ('--', 0), (' 0', 0), ('0 ', 1),
                ('0  1', 1), ('00', 0), ('01', 0), ('0 01', 1), ('-1', 0), ('+1', 0), ('1_0', 0), ('1.0', 0), ('x', 0), ('0\n', 0),
                ('0\n1', 0), ('1 1', 1), ('1 0', 1), ('0 5 3 9', 2), ('0 5 5 x', 2), ('9' * 61, 0), ('1' + '0' * 60, 0),
                ('3 ' + '9' * 61, 1), ('-\n', 0), ('\u0661', 0), ('\u00b2', 0)):
            self.refused(InvalidText, (0, field), gaps_read, words)
        self.told((int('9' * 60),), gaps_read, '9' * 60)

    def test_each_change_of_a_set(self):
        for gaps in ((), (0,), (3, 5), (0, 1, 10), (9, 10, 101)):
            for words in changed(gaps_words(gaps), ' -\nx0129'):
                field = gaps_fault(words.split(' '))
                if field is None:
                    self.told(words, gaps_words, gaps_read(words))
                else:
                    self.refused(InvalidText, (0, field), gaps_read, words)

    def test_no_strings(self):
        for thing in ODD:
            if type(thing) is not str:
                self.refused(NotUsable, ('words', -1), gaps_read, thing)


class Complaints(Case):

    def test_each_written_complaint(self):
        for complaint in [(row, word) for row in (0, 3, 10, 59, 10 ** 60 - 1) for word in WORDS]:
            self.told(complaint, complaint_read, complaint_word(complaint))
            self.told(complaint, complaint_read, word=complaint_word(complaint))

    def test_edges(self):
        for word, field in (
                ('', 0), (':', 0), ('3', 0), ('use', 0), ('3:', 0), (':use', 0), ('3 :use', 0), ('3: use', 0), (' 3:use', 0),
                ('3:use ', 1), ('3:use 3:use', 1), ('3:use  ', 1), ('3:use\n', 0), ('03:use', 0), ('00:use', 0), ('-1:use', 0),
                ('3:uses', 0), ('3:us', 0), ('3:let', 0), ('3:USE', 0), ('3::use', 0), ('3:use:use', 0), ('3:use:', 0), ('-', 0),
                ('9' * 61 + ':use', 0), ('x:use', 0), ('3-use', 0), ('3:usx x', 0)):
            self.refused(InvalidText, (0, field), complaint_read, word)

    def test_each_change_of_a_complaint(self):
        for row, word in ((0, 'use'), (10, 'unused'), (59, 'end')):
            for string in changed(complaint_word((row, word)), ' -\n:x019d'):
                words = string.split(' ')
                if not re.fullmatch(f'({NUMBER}):({"|".join(WORDS)})', words[0]):
                    self.refused(InvalidText, (0, 0), complaint_read, string)
                elif len(words) > 1:
                    self.refused(InvalidText, (0, 1), complaint_read, string)
                else:
                    self.told(string, complaint_word, complaint_read(string))

    def test_no_strings(self):
        for thing in (*ODD, (3, 'use')):
            if type(thing) is not str:
                self.refused(NotUsable, ('word', -1), complaint_read, thing)
