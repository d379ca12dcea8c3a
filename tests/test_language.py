"""The rules of LANGUAGE.md that can be seen in the syntax tree, over all files of the package."""

import ast
import builtins
import pathlib
import re
import unittest
import warnings

PACKAGE = pathlib.Path(__file__).resolve().parent.parent / 'surelywrong'
ALLOWED_BUILTINS = set("""len range enumerate zip min max sum abs sorted reversed int str bool list tuple dict set isinstance
    ord repr any all divmod iter next map Exception ValueError TypeError KeyError IndexError LookupError ZeroDivisionError
    ArithmeticError OverflowError RuntimeError NotImplementedError StopIteration NotImplemented super property staticmethod
    classmethod""".split())
METHODS = set("""append clear copy count endswith extend find get index insert isalnum isalpha isdigit islower isspace isupper
    items join keys ljust lower lstrip partition pop remove replace reverse rfind rjust rpartition rsplit rstrip setdefault
    split splitlines startswith strip update upper values zfill bit_length""".split())
DOUBLE = set("""init eq repr str len enter exit call iter lt le gt ge ne add sub mul floordiv mod pow and or xor lshift rshift
    radd rsub rmul rand ror rxor iadd isub imul iand ior ixor neg pos invert abs bool contains getitem setitem""".split())
BARRED_NAMES = set("""register mro elements open input law version_info with_traceback add_note attrgetter breakpoint builtins
    compile copyright credits delattr dir eval exec exit gc getattr globals hasattr help id importlib license locals
    methodcaller os quit setattr type vars sys""".split())
BARRED_WORDS = re.compile(r'\b(typing|typing_extensions|enum|Enum|IntEnum|StrEnum|Flag|IntFlag|Generic|Protocol|ABC|ABCMeta|'
                          r'namedtuple|NamedTuple|TypedDict|TYPE_CHECKING|abstractmethod|_wall|_WallAttr)\b|dataclass|overload|'
                          r'contextmanager|\(type\)|Meta|metaclass=')
# What operators and properties may run stays without them (L5), so the whole package does.
BARRED_NODES = (ast.Global, ast.AsyncFunctionDef, ast.Await, ast.AsyncFor, ast.AsyncWith, ast.Set, ast.AugAssign, ast.GeneratorExp,
                ast.AnnAssign, ast.Delete, ast.Div, ast.MatMult, ast.Match, ast.Lambda, ast.NamedExpr)
# Where the others stand that no operator and no property runs.
PLACES = {ast.Try: ('desk.py', 'guarded.py'), ast.With: ('writings.py',)}


def package_files():
    return sorted(PACKAGE.rglob('*'))


def parsed():
    for path in package_files():
        if path.suffix == '.py':
            source = path.read_text(encoding='utf-8')
            with warnings.catch_warnings():
                warnings.simplefilter('error')
                yield path.name, source, ast.parse(source)


def nodes(*kinds):
    for name, _, tree in parsed():
        for node in ast.walk(tree):
            if isinstance(node, kinds):
                yield f'{name}:{getattr(node, "lineno", 0)}', node


def functions():
    return nodes(ast.FunctionDef)


def bound_names(tree):
    """All names that a file gives a meaning, attributes left out."""
    for node in ast.walk(tree):
        if isinstance(node, (ast.FunctionDef, ast.ClassDef)):
            yield node.name
        elif isinstance(node, ast.arg):
            yield node.arg
        elif isinstance(node, ast.Name) and isinstance(node.ctx, ast.Store):
            yield node.id
        elif isinstance(node, ast.alias):
            yield node.asname or node.name


class Language(unittest.TestCase):

    def test_files(self):
        files = [path for path in package_files() if '__pycache__' not in path.parts]
        for path in files:
            self.assertRegex(path.name, r'^[a-z][a-z0-9_]*\.py$|^__init__\.py$')
        self.assertIn(PACKAGE / '__init__.py', files)

    def test_sizes_and_characters(self):
        for name, source, _ in parsed():
            lines = source.split('\n')
            self.assertLessEqual(len(lines) - 1, 399, name)
            for line in lines:
                self.assertLessEqual(len(line), 120, name)
                self.assertTrue(all(' ' <= sign <= '~' for sign in line), name)
            self.assertIsNone(BARRED_WORDS.search(source), name)
        for where, node in functions():
            self.assertLessEqual(node.end_lineno - node.lineno + 1, 40, where)

    def test_imports(self):
        imports = {}
        for name, _, tree in parsed():
            froms = [node for node in ast.walk(tree) if isinstance(node, ast.ImportFrom)]
            for node in froms:
                self.assertRegex(node.module, r'^surelywrong\.[a-z]+$', name)
                self.assertEqual(node.level, 0, name)
                source = ast.parse((PACKAGE / (node.module.split('.')[1] + '.py')).read_text())
                defined = [there.name for there in source.body if isinstance(there, (ast.FunctionDef, ast.ClassDef))]
                defined += [there.targets[0].id for there in source.body if isinstance(there, ast.Assign)]
                for alias in node.names:
                    self.assertIn(alias.name, defined, name)
                    self.assertIsNone(alias.asname, name)
            imports[name] = [node.module.split('.')[1] + '.py' for node in froms]
        self.assertEqual(list(nodes(ast.Import)), [])
        while imports:
            free = [name for name in imports if not any(other in imports for other in imports[name])]
            self.assertTrue(free, f'a ring of imports: {imports}')
            for name in free:
                del imports[name]

    def test_module_level(self):
        for name, _, tree in parsed():
            for node in tree.body:
                docstring = isinstance(node, ast.Expr) and isinstance(node.value, ast.Constant)
                self.assertTrue(docstring or isinstance(node, (ast.ImportFrom, ast.FunctionDef, ast.ClassDef, ast.Assign)), name)
                if isinstance(node, ast.Assign):
                    self.plain_or_functions(node.value, [there.name for there in tree.body if getattr(there, 'lineno', 0) < node.lineno
                                                         and isinstance(there, ast.FunctionDef)])
            bound = [node.name for node in tree.body if isinstance(node, (ast.FunctionDef, ast.ClassDef))]
            bound += [node.targets[0].id for node in tree.body if isinstance(node, ast.Assign)]
            bound += [alias.name for node in tree.body if isinstance(node, ast.ImportFrom) for alias in node.names]
            self.assertEqual(len(bound), len(set(bound)), name)

    def plain_or_functions(self, value, above):
        """The value is plain, or a dict of functions that are defined above."""
        if isinstance(value, ast.Dict) and all(isinstance(one, ast.Name) for one in value.values):
            for key, one in zip(value.keys, value.values):
                ast.literal_eval(key)
                self.assertIn(one.id, above)
        else:
            ast.literal_eval(value)

    def test_no_barred_statements(self):
        self.assertEqual([where for where, _ in nodes(*BARRED_NODES)], [])
        for kind, places in PLACES.items():
            for where, _ in nodes(kind):
                self.assertIn(where.split(':')[0], places)
        for where, node in nodes(ast.Try):
            self.assertEqual([node.orelse, node.finalbody], [[], []], where)
            for handler in node.handlers:
                self.assertIn(handler.type.id, ('InvalidText', 'TookBack'), where)
        for where, node in functions():
            if node.name == '__exit__':
                for row in node.body:
                    self.assertIsInstance(row, ast.Assign, where)
                    self.assertIsInstance(row.targets[0], ast.Attribute, where)
                    self.assertIsInstance(row.value, ast.Constant, where)
        for where, node in nodes(ast.Constant):
            self.assertNotIsInstance(node.value, (float, complex, bytes), where)
            if isinstance(node.value, str):
                self.assertNotIn('%', node.value, where)
        for where, node in nodes(ast.Compare):
            for sign, right in zip(node.ops, node.comparators):
                if isinstance(sign, (ast.Is, ast.IsNot)):
                    self.assertIn(getattr(right, 'value', 0), (None, True, False), where)

    def test_no_annotations_and_no_odd_parameters(self):
        for where, node in functions():
            self.assertIsNone(node.returns, where)
            for arg in ast.walk(node.args):
                self.assertIsNone(getattr(arg, 'annotation', None), where)
            self.assertFalse(node.args.posonlyargs or node.args.kwarg, where)
            for decorator in node.decorator_list:
                self.assertIn(getattr(decorator, 'id', ''), ('property', 'staticmethod', 'classmethod'), where)
        for where, node in nodes(ast.ClassDef):
            self.assertEqual(node.decorator_list, [], where)

    def test_names(self):
        for name, _, tree in parsed():
            for bound in bound_names(tree):
                double = bound.startswith('__') and bound.endswith('__') and bound.strip('_') in DOUBLE
                self.assertTrue(double or re.fullmatch(r'_?[A-Za-z][A-Za-z0-9_]*|_', bound), f'{name}: {bound}')
                self.assertNotIn(bound, BARRED_NAMES, name)
                self.assertFalse(not double and hasattr(builtins, bound), f'{name}: {bound}')
            top = {node.name for node in tree.body if isinstance(node, ast.ClassDef)}
            top |= {alias.name for node in tree.body if isinstance(node, ast.ImportFrom) for alias in node.names}
            for node in ast.walk(tree):
                if isinstance(node, ast.arg):
                    self.assertNotIn(node.arg, top, name)
                if isinstance(node, ast.Name) and isinstance(node.ctx, ast.Store):
                    self.assertNotIn(node.id, top, name)

    def test_builtins(self):
        for name, _, tree in parsed():
            known = set(bound_names(tree))
            for node in ast.walk(tree):
                if isinstance(node, ast.Name) and isinstance(node.ctx, ast.Load) and node.id not in known:
                    self.assertIn(node.id, ALLOWED_BUILTINS, name)
                if isinstance(node, ast.Name) and isinstance(node.ctx, ast.Load):
                    self.assertNotEqual(node.id, '_', name)

    def test_methods(self):
        # What a Guarded holds is called, too.
        own = {'_checker', *[node.name for _, node in functions()]}
        for where, node in nodes(ast.Call):
            if isinstance(node.func, ast.Attribute):
                self.assertIn(node.func.attr, METHODS | own, where)
        for where, node in nodes(ast.Attribute):
            if node.attr.startswith('__'):
                self.assertEqual(ast.unparse(node), 'super().__init__', where)

    def test_sets_stand_in_sorted_or_behind_in(self):
        for name, _, tree in parsed():
            inside = [arg for node in ast.walk(tree) if isinstance(node, ast.Call) and getattr(node.func, 'id', '') in
                      ('sorted', 'len') for arg in node.args]
            inside += [right for node in ast.walk(tree) if isinstance(node, ast.Compare) for right in node.comparators]
            for node in ast.walk(tree):
                if isinstance(node, ast.SetComp) or (isinstance(node, ast.Call) and getattr(node.func, 'id', '') == 'set'):
                    self.assertIn(node, inside, f'{name}:{node.lineno}')

    def test_short_double_methods_return_what_they_may(self):
        calls = {'__len__': ('len',), '__str__': ('str', 'repr'), '__bool__': ('bool', 'any', 'all', 'isinstance')}
        for where, node in functions():
            if node.name in calls:
                self.assertIsInstance(node.body[-1], ast.Return, where)
                value = node.body[-1].value
                self.assertTrue(isinstance(value, ast.Call) and getattr(value.func, 'id', '') in calls[node.name], where)

    def test_what_can_be_indexed_says_how_it_is_iterated(self):
        for where, node in nodes(ast.ClassDef):
            methods = [member.name for member in node.body if isinstance(member, ast.FunctionDef)]
            self.assertEqual(len(methods), len(set(methods)), where)
            if '__getitem__' in methods:
                self.assertIn('__iter__', methods, where)
