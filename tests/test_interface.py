"""The interface: each function and class under its name, in its file, with its parameters."""

import importlib
import inspect
import pathlib
import re
import unittest

from surelywrong.drafts import Draft
from surelywrong.texts import Text
from surelywrong.writings import Writing

DOCUMENT = pathlib.Path(__file__).resolve().parents[2] / 'shared' / 'DOC.md'

FUNCTIONS = {
    'kinds': {name: 'thing' for name in ('is_integer', 'is_number', 'is_name', 'is_kind', 'is_sort', 'is_row', 'is_text', 'is_gaps',
                                         'is_complaint', 'is_way')},
    'waychecker': {'lets_carets': 'text thing', 'lets_way': 'text carets thing'},
    'blocks': {'end_of': 'text row', 'open_at': 'text gap', 'block_of': 'text row', 'level_of': 'text block',
               'is_ground': 'text block'},
    'rowchanges': {'with_row': 'text row new', 'without_row': 'text row', 'put_in': 'text gap rows',
                   'wrapped': 'text first last sort', 'renamed': 'text *pairs', 'rekinded': 'text *pairs'},
    'rowtexts': {'row_line': 'row', 'text_lines': 'text', 'gaps_words': 'gaps', 'complaint_word': 'complaint'},
    'rowreadings': {'row_read': 'line', 'text_read': 'lines', 'gaps_read': 'words', 'complaint_read': 'word'},
    'finding': {name: 'text row' for name in ('let_found', 'uses_of', 'function_of', 'loop_of', 'reign_of')},
    'complaining': {'complaints_of': 'text', 'words_at': 'text row', 'complaints_by': 'text'},
    'stretching': {'cause_of': 'text complaint', 'stretch_of': 'text complaint'},
    'growing': {'grown': 'text way', 'moved': 'text way row', 'old_row': 'text way row', 'gone_by': 'text way', 'new_by': 'text way'},
    'sureness': {'is_sure': 'text carets complaint', 'sure_ones': 'text carets', 'held_ones': 'text carets',
                 'taking_away': 'text carets complaint'},
    'layering': {name: 'text carets row' for name in ('segment_of', 'layer_of', 'rows_of_layer')},
    'going': {'can_go': 'text carets some', 'going_way': 'text carets some'},
    'goingpapers': {'going_paper': 'text carets some'},
    'goingchecker': {'lets_going': 'text carets some thing'},
    'leaving': {'fewest_left': 'text carets some', 'most_gone': 'text carets some', 'is_full': 'text carets some part',
                'filled_up': 'text carets some part'},
    'leavingpapers': {'leaving_paper': 'text carets some'},
    'leavingchecker': {'lets_leaving': 'text carets some thing'},
    'laddering': {name: 'text carets some' for name in ('is_ladder', 'a_ladder', 'ladders_of', 'how_many_ladders')},
    'spanning': {'is_needed': 'text span some', 'needed_spans': 'text some', 'fewest_carets': 'text some',
                 'helping_gaps': 'text carets some'},
    'spanpapers': {'span_paper': 'text some'},
    'spanchecker': {'lets_spans': 'text some thing'},
    'eventkinds': {'is_event': 'thing', 'is_log': 'thing'},
    'judging': {'shown_along': 'log checker', 'fault_of': 'log checker', 'no_sooner': 'log checker other'},
    'replaying': {'replayed': 'log'},
    'eventtexts': {'event_line': 'event', 'log_lines': 'log'},
    'eventreadings': {'read_event': 'line', 'read_log': 'lines'},
}
CHECKER = {'__call__': 'self log', 'shown': 'self log'}
METHODS = {
    ('texts', 'Text'): {'__init__': 'self rows', 'read': 'cls lines', 'of_rows': '*rows'},
    ('drafts', 'Draft'): {'__init__': 'self rows', 'insert_row': 'self gap row', 'take_row': 'self row',
                          'wrap': 'self first last sort', 'frozen': 'self'},
    ('gapsets', 'Gaps'): {'__init__': 'self *gaps', 'lies_in': 'self other', 'all_of': 'cls text', 'read': 'cls words'},
    ('growths', 'Growth'): {'__init__': 'self text way', '__add__': 'self other', '__contains__': 'self thing', '__len__': 'self',
                            '__eq__': 'self other', '__str__': 'self'},
    ('reaches', 'Reach'): {'__init__': 'self text carets', 'can_go': 'self some', '__or__': 'self other', '__contains__': 'self thing',
                           '__len__': 'self', '__eq__': 'self other', '__str__': 'self'},
    ('reaches', 'Widest'): {'__init__': 'self text'},
    ('reaches', 'CountingReach'): {'__init__': 'self text carets', 'can_go': 'self some'},
    ('writings', 'Writing'): {'__init__': 'self rows carets', 'put': 'self gap row', 'close_caret': 'self gap', 'go': 'self event',
                              '__call__': 'self event', 'barred': 'self event', 'tried': 'self *events', 'undo': 'self',
                              'do_all': 'self *events keep=', 'tally': 'self', 'log': 'self', 'shut': 'self', 'finish': 'self *events',
                              '__enter__': 'self', '__exit__': 'self kind value trace', '__contains__': 'self thing',
                              '__len__': 'self', '__eq__': 'self other'},
    **{('checkers', name): CHECKER for name in ('Checker', 'Sure', 'Hasty', 'CountingSure')},
    ('checkers', 'Certain'): {'__init__': 'self *words', **CHECKER},
    ('checkers', 'Counting'): {'__init__': 'self', **CHECKER},
    ('guarded', 'Guarded'): {'__init__': 'self checker', **CHECKER},
    ('desk', 'Desk'): {'__init__': 'self', 'say': 'self row', 'counts': 'self'},
}
PROPERTIES = {
    ('texts', 'Text'): 'rows', ('gapsets', 'Gaps'): 'members', ('growths', 'Growth'): 'rows way gone fresh',
    ('reaches', 'Reach'): 'text carets sure held', ('reaches', 'CountingReach'): 'asked',
    ('writings', 'Writing'): 'rows carets sure held births moments is_shut', ('checkers', 'Counting'): 'asked',
}
# The classes that each class is derived from, if there are any.
BASES = {
    'Widest': ['Reach'], 'CountingReach': ['Reach'], 'CountingSure': ['Counting', 'Sure'],
    **{name: ['Checker'] for name in ('Sure', 'Hasty', 'Certain', 'Counting', 'Guarded')},
}


def parameters(function):
    form = {inspect.Parameter.VAR_POSITIONAL: '*{}', inspect.Parameter.POSITIONAL_OR_KEYWORD: '{}', inspect.Parameter.KEYWORD_ONLY: '{}='}
    return ' '.join(form[one.kind].format(name) for name, one in inspect.signature(function).parameters.items())


class Interface(unittest.TestCase):

    def test_functions(self):
        for module, functions in FUNCTIONS.items():
            there = importlib.import_module('surelywrong.' + module)
            for name, expected in functions.items():
                function = getattr(there, name)
                self.assertTrue(inspect.isfunction(function))
                self.assertEqual(function.__module__, there.__name__)
                self.assertEqual(parameters(function), expected, name)

    def test_classes(self):
        for (module, name), methods in METHODS.items():
            there = importlib.import_module('surelywrong.' + module)
            made = getattr(there, name)
            self.assertEqual(made.__module__, there.__name__)
            self.assertEqual([base.__name__ for base in made.__bases__], BASES.get(name, ['object']))
            for method, expected in methods.items():
                function = vars(made)[method]
                self.assertEqual(parameters(getattr(function, '__func__', function)), expected, method)

    def test_properties(self):
        for (module, name), told in PROPERTIES.items():
            made = getattr(importlib.import_module('surelywrong.' + module), name)
            for one in told.split():
                self.assertIsInstance(vars(made)[one], property)

    def test_defaults(self):
        for function, expected in ((Writing.__init__, {'rows': (), 'carets': ()}), (Writing.do_all, {'keep': False}), (Text.__init__, {'rows': ()}),
                                   (Draft.__init__, {'rows': ()})):
            found = inspect.signature(function).parameters.items()
            self.assertEqual({name: one.default for name, one in found if one.default is not one.empty}, expected)

    def test_all_that_the_document_lists(self):
        if not DOCUMENT.exists():
            self.skipTest('the document is not here')
        lines = re.findall(r'^- surelywrong/([a-z]+)[.]py: (.*)[.]$', DOCUMENT.read_text(), re.MULTILINE)
        self.assertGreater(len(lines), 30)
        classes = {name: module for module, name in METHODS}
        for module, told in lines:
            if module != 'errors':
                for name in told.split(', '):
                    self.assertTrue(name in FUNCTIONS.get(module, ()) or classes.get(name) == module, f'{module}: {name}')
