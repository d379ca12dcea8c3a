"""Point 16, with points 3, 5 and 10: texts as strings."""

from surelywrong.errors import NotUsable
from surelywrong.kinds import is_complaint, is_row
from surelywrong.rowtexts import complaint_word, gaps_words, row_line, text_lines
from tests.helper import Case, ODD, TEXT, WORDS, is_gap_set

LINES = {
    ('open', 'if'): 'open if', ('open', 'loop'): 'open loop', ('open', ('fun', '')): 'open fun -',
    ('open', ('fun', 'num')): 'open fun num', ('open', ('fun', 'fun')): 'open fun fun', ('end',): 'end', ('stop',): 'stop',
    ('let', 'x', 'num'): 'let x num', ('use', 'let', 'end'): 'use let end', ('give', ''): 'give -', ('give', 'num'): 'give num',
}


class Examples(Case):

    def test_of_the_document(self):
        self.told('open fun -', row_line, ('open', ('fun', '')))
        self.told('use x text\nlet x num\nend', text_lines, TEXT[2:5])
        self.told('0 12', gaps_words, (0, 12))
        self.told('3:unused', complaint_word, (3, 'unused'))


class Written(Case):

    def test_rows(self):
        for row, line in LINES.items():
            self.told(line, row_line, row)
            self.told(line, text_lines, (row,))
        self.told('stop', row_line, row=('stop',))

    def test_texts(self):
        self.told('', text_lines, ())
        self.told('\n'.join(LINES.values()), text_lines, text=tuple(LINES))
        self.told('\n'.join(['end'] * 500), text_lines, (('end',),) * 500)

    def test_gaps(self):
        self.told('-', gaps_words, ())
        self.told('0', gaps_words, (0,))
        self.told('0 1 10 ' + '9' * 60, gaps=(0, 1, 10, int('9' * 60)), call=gaps_words)

    def test_complaints(self):
        for word in WORDS:
            self.told('0:' + word, complaint_word, (0, word))
            self.told('9' * 60 + ':' + word, complaint_word, complaint=(int('9' * 60), word))


class Wrong(Case):

    def test_rows(self):
        for thing in ODD:
            if not is_row(thing):
                self.refused(NotUsable, ('row', -1), row_line, thing)
        for thing in (3, 'stop', ['stop'], ('give',), ('open', 'fun'), ('let', 'x', ''), TEXT):
            self.refused(NotUsable, ('row', -1), row_line, thing)

    def test_texts(self):
        for thing in ODD:
            if type(thing) is not tuple:
                self.refused(NotUsable, ('text', -1), text_lines, thing)
        self.refused(NotUsable, ('text', 2), text_lines, (('end',), ('stop',), ('give',), None))
        self.refused(NotUsable, ('text', 0), text_lines, ('end',))

    def test_gaps(self):
        for thing in ODD:
            if not is_gap_set(thing, 10 ** 60):
                self.refused(NotUsable, ('gaps', -1), gaps_words, thing)
        for thing in ((1, 0), (2, 2), (True,), (-1,), [0], (0, None)):
            self.refused(NotUsable, ('gaps', -1), gaps_words, thing)

    def test_complaints(self):
        for thing in ODD:
            if not is_complaint(thing):
                self.refused(NotUsable, ('complaint', -1), complaint_word, thing)
        for thing in ((True, 'use'), (-1, 'use'), (0, 'let'), [0, 'use'], (0, 'use', 'use'), '0:use', (0, ['use'])):
            self.refused(NotUsable, ('complaint', -1), complaint_word, thing)
