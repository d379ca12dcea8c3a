"""The interface: each function and class under its name, in its file, with its parameters."""

import importlib
import inspect
import unittest

FUNCTIONS = {
    'kinds': {name: 'thing' for name in ('is_integer', 'is_number', 'is_name', 'is_kind', 'is_sort', 'is_row', 'is_text', 'is_gaps',
                                         'is_complaint', 'is_way')},
    'waychecker': {'lets_carets': 'text thing', 'lets_way': 'text carets thing'},
    'blocks': {'end_of': 'text row', 'open_at': 'text gap', 'block_of': 'text row', 'level_of': 'text block',
               'is_ground': 'text block'},
    'rowchanges': {'with_row': 'text row new', 'without_row': 'text row', 'put_in': 'text gap rows',
                   'wrapped': 'text first last sort', 'renamed': 'text *pairs', 'rekinded': 'text *pairs'},
    'rowtexts': {'row_line': 'row', 'text_lines': 'text', 'gaps_words': 'gaps', 'complaint_word': 'complaint'},
    'rowreadings': {'row_read': 'line', 'text_read': 'lines', 'gaps_read': 'words', 'complaint_read': 'word'},
    'finding': {name: 'text row' for name in ('let_found', 'uses_of', 'function_of', 'loop_of', 'reign_of')},
    'complaining': {'complaints_of': 'text', 'words_at': 'text row', 'complaints_by': 'text'},
    'stretching': {'cause_of': 'text complaint', 'stretch_of': 'text complaint'},
    'growing': {'grown': 'text way', 'moved': 'text way row', 'old_row': 'text way row', 'gone_by': 'text way', 'new_by': 'text way'},
    'sureness': {'is_sure': 'text carets complaint', 'sure_ones': 'text carets', 'held_ones': 'text carets',
                 'taking_away': 'text carets complaint'},
    'layering': {name: 'text carets row' for name in ('segment_of', 'layer_of', 'rows_of_layer')},
    'going': {'can_go': 'text carets some', 'going_way': 'text carets some'},
    'goingpapers': {'going_paper': 'text carets some'},
    'goingchecker': {'lets_going': 'text carets some thing'},
    'leaving': {'fewest_left': 'text carets some', 'most_gone': 'text carets some', 'is_full': 'text carets some part',
                'filled_up': 'text carets some part'},
    'leavingpapers': {'leaving_paper': 'text carets some'},
    'leavingchecker': {'lets_leaving': 'text carets some thing'},
    'laddering': {name: 'text carets some' for name in ('is_ladder', 'a_ladder', 'ladders_of', 'how_many_ladders')},
}
METHODS = {
    ('texts', 'Text'): {'__init__': 'self rows', 'read': 'cls lines', 'of_rows': '*rows'},
    ('drafts', 'Draft'): {'__init__': 'self rows', 'insert_row': 'self gap row', 'take_row': 'self row',
                          'wrap': 'self first last sort', 'frozen': 'self'},
    ('gapsets', 'Gaps'): {'__init__': 'self *gaps', 'lies_in': 'self other', 'all_of': 'cls text', 'read': 'cls words'},
    ('growths', 'Growth'): {'__init__': 'self text way', '__add__': 'self other', '__contains__': 'self thing', '__len__': 'self',
                            '__eq__': 'self other', '__str__': 'self'},
}
PROPERTIES = {('texts', 'Text'): 'rows', ('gapsets', 'Gaps'): 'members', ('growths', 'Growth'): 'rows way gone fresh'}


def parameters(function):
    stars = {inspect.Parameter.VAR_POSITIONAL: '*', inspect.Parameter.POSITIONAL_OR_KEYWORD: ''}
    return ' '.join(stars[one.kind] + name for name, one in inspect.signature(function).parameters.items())


class Interface(unittest.TestCase):

    def test_functions(self):
        for module, functions in FUNCTIONS.items():
            there = importlib.import_module('surelywrong.' + module)
            for name, expected in functions.items():
                function = getattr(there, name)
                self.assertTrue(inspect.isfunction(function))
                self.assertEqual(function.__module__, there.__name__)
                self.assertEqual(parameters(function), expected, name)

    def test_classes(self):
        for (module, name), methods in METHODS.items():
            there = importlib.import_module('surelywrong.' + module)
            made = getattr(there, name)
            self.assertEqual([made.__module__, made.__bases__], [there.__name__, (object,)])
            for method, expected in methods.items():
                function = vars(made)[method]
                self.assertEqual(parameters(getattr(function, '__func__', function)), expected, method)

    def test_properties(self):
        for (module, name), told in PROPERTIES.items():
            made = getattr(importlib.import_module('surelywrong.' + module), name)
            for one in told.split():
                self.assertIsInstance(vars(made)[one], property)
