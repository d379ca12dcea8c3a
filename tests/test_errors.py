"""Point 10: the errors, their families and their fields."""

import inspect

from surelywrong import errors
from tests.helper import Case, TEXT

FAMILIES = {
    'PaperError': {'InvalidPaper': ('word', 'at')},
    'RowError': {'NotUsable': ('word', 'at'), 'TookBack': ('moment', 'complaint')},
    'WritingError': {'InvalidEvent': ('event', 'reason'), 'NothingToUndo': ('steps',)},
    'TextError': {'InvalidText': ('line', 'field'), 'InvalidRow': ('row',)},
}


class Stubborn:
    """A value that nobody may look into."""

    def __eq__(self, other):
        raise AssertionError('compared')

    def __bool__(self):
        raise AssertionError('asked for its truth')

    def __len__(self):
        raise AssertionError('asked for its length')

    def __repr__(self):
        raise AssertionError('shown')

    __str__ = __iter__ = __hash__ = __repr__


class Errors(Case):

    def each(self):
        for family, members in FAMILIES.items():
            for name, fields in members.items():
                yield getattr(errors, family), getattr(errors, name), fields

    def test_families(self):
        self.assertEqual(errors.SurelyError.__bases__, (ValueError,))
        for family, error, _ in self.each():
            self.assertEqual(family.__bases__, (errors.SurelyError,))
            self.assertEqual(error.__bases__, (family,))

    def test_there_are_just_these(self):
        classes = {name for name, thing in vars(errors).items() if inspect.isclass(thing)}
        self.assertEqual(classes, {'SurelyError', *FAMILIES, *[name for each in FAMILIES.values() for name in each]})

    def test_each_stands_in_its_file(self):
        for family, error, _ in self.each():
            self.assertEqual([family.__module__, error.__module__], ['surelywrong.errors'] * 2)

    def test_fields_are_the_very_objects(self):
        for _, error, fields in self.each():
            for values in ([Stubborn() for _ in fields], [[field] for field in fields], [TEXT for _ in fields]):
                named = dict(zip(fields, values))
                for made in (error(*values), error(**named)):
                    self.assertEqual(list(vars(made)), list(fields))
                    for field in fields:
                        self.assertIs(getattr(made, field), named[field])

    def test_just_these_fields_are_taken(self):
        for _, error, fields in self.each():
            self.assertEqual(list(inspect.signature(error).parameters), list(fields))
            for count in range(len(fields) + 2):
                if count != len(fields):
                    with self.assertRaises(TypeError):
                        error(*[0] * count)

    def test_caught_as_family(self):
        with self.assertRaises(errors.RowError):
            raise errors.NotUsable('row', 3)
        with self.assertRaises(errors.SurelyError):
            raise errors.InvalidEvent(('put', 0, ('end',)), 'full')
