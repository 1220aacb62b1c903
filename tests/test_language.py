"""The code of the package keeps to the subset of Python that it is written in, as far as a look at it can tell."""

import ast
import pathlib
import re
import unittest

FOLDER = pathlib.Path(__file__).resolve().parent.parent / 'roomrings'
FILES = sorted(path for path in FOLDER.rglob('*') if '__pycache__' not in path.parts)
TREES = {path.name: ast.parse(path.read_text()) for path in FILES}

BUILTINS = set('''len range enumerate zip min max sum abs sorted reversed int str bool bytes list tuple dict set
    frozenset isinstance ord repr any all divmod Exception ValueError TypeError KeyError IndexError LookupError
    ZeroDivisionError NotImplemented property staticmethod classmethod super iter next map'''.split())
METHODS = set('''append clear copy count endswith extend find get index insert isalnum isalpha isdigit islower isspace
    isupper items join keys ljust lower lstrip partition pop remove replace reverse rfind rjust rpartition rsplit
    rstrip setdefault split splitlines startswith strip update upper values zfill bit_length isascii add discard
    __init__'''.split())
SPECIAL = set('''__init__ __eq__ __repr__ __str__ __len__ __enter__ __exit__ __call__ __iter__ __contains__ __getitem__
    __add__ __sub__ __lt__ __le__ __gt__ __ge__ __ne__ __bool__'''.split())
BARRED = set('''register mro elements open input law version_info with_traceback add_note attrgetter breakpoint builtins
    compile copyright credits delattr dir eval exec exit gc getattr globals hasattr help id importlib license locals
    methodcaller os quit setattr type vars'''.split())
WORDS = set('''typing typing_extensions enum Enum IntEnum StrEnum Flag IntFlag Generic Protocol ABC ABCMeta namedtuple
    NamedTuple TypedDict TYPE_CHECKING abstractmethod dataclass overload contextmanager type Meta'''.split())
CHANGING = set('append clear extend insert pop remove reverse setdefault update sort add discard'.split())
NO_OPERATORS = ('__init__', '__enter__', '__exit__', '__call__')
LIBRARY = {'heapq', 'math', 'itertools'}
STATEMENTS = (ast.Global, ast.AsyncFunctionDef, ast.AsyncFor, ast.AsyncWith, ast.Await, ast.Import)


def nodes(kind):
    for name, tree in TREES.items():
        for node in ast.walk(tree):
            if isinstance(node, kind):
                yield name, node


def bound_names(tree):
    """Names of parameters, of what is assigned to, and of errors that are caught, wherever they stand."""
    for node in ast.walk(tree):
        if isinstance(node, ast.arg):
            yield node.arg
        elif isinstance(node, ast.Name) and isinstance(node.ctx, ast.Store):
            yield node.id
        elif isinstance(node, ast.ExceptHandler) and node.name is not None:
            yield node.name


def run_by_operators():
    """The operators and properties, and all functions that they call, directly or over others."""
    at_name = {}
    for name, node in nodes((ast.FunctionDef, ast.ClassDef)):
        at_name.setdefault(node.name, []).append((name, node))
    ahead = [(name, node) for name, node in nodes(ast.FunctionDef)
             if (node.name.startswith('__') and node.name not in NO_OPERATORS)
             or any(decorator.id == 'property' for decorator in node.decorator_list)]
    met = []
    while ahead:
        name, node = ahead.pop()
        if node in met:
            continue
        met.append(node)
        yield name, node
        for part in ast.walk(node):
            if isinstance(part, ast.Call) and isinstance(part.func, ast.Name):
                for there, found in at_name.get(part.func.id, []):
                    if isinstance(found, ast.ClassDef):
                        ahead += [(there, made) for made in found.body
                                  if isinstance(made, ast.FunctionDef) and made.name == '__init__']
                    else:
                        ahead.append((there, found))


def own_methods():
    return {node.name for _, node in nodes(ast.FunctionDef)}


class Language(unittest.TestCase):

    def test_files(self):
        self.assertLessEqual(len(FILES), 100)
        for path in FILES:
            self.assertTrue(path.is_file() and re.fullmatch(r'[a-z][a-z0-9_]*\.py|__init__\.py', path.name), path)

    def test_characters_and_lines(self):
        for path in FILES:
            text = path.read_bytes()
            self.assertTrue(all(32 <= code <= 126 or code == 10 for code in text), path)
            rows = text.decode().split('\n')
            self.assertLessEqual(len(rows), 399, path)
            for row in rows:
                self.assertLessEqual(len(row), 120, f'{path}: {row}')

    def test_words(self):
        for path in FILES:
            found = WORDS & set(re.findall(r'\w+', path.read_text()))
            self.assertEqual(found, set(), path)

    def test_functions_are_short(self):
        for name, node in nodes(ast.FunctionDef):
            self.assertLessEqual(node.end_lineno - node.lineno + 1, 40, f'{name}: {node.name}')

    def test_imports(self):
        for name, node in nodes(ast.ImportFrom):
            self.assertEqual(node.level, 0)
            self.assertTrue(all(alias.asname is None and alias.name != '*' for alias in node.names), name)
            if node.module in LIBRARY:
                continue
            self.assertTrue(node.module.startswith('roomrings.'), f'{name}: {node.module}')
            there = TREES[node.module.removeprefix('roomrings.') + '.py']
            defined = {part.name for part in there.body if isinstance(part, (ast.FunctionDef, ast.ClassDef))}
            defined |= {part.targets[0].id for part in there.body if isinstance(part, ast.Assign)}
            for alias in node.names:
                self.assertIn(alias.name, defined, f'{name}: {node.module}')

    def test_imports_are_used_and_make_no_circle(self):
        of = {}
        for name, tree in TREES.items():
            imports = [node for node in tree.body if isinstance(node, ast.ImportFrom)]
            of[name] = {node.module.removeprefix('roomrings.') + '.py' for node in imports} & set(TREES)
            read = {node.id for node in ast.walk(tree) if isinstance(node, ast.Name)}
            for node in imports:
                self.assertLessEqual({alias.name for alias in node.names}, read, name)
        while of:
            last = [name for name in of if not of[name] & set(of)]
            self.assertNotEqual(last, [], f'a circle of imports in {sorted(of)}')
            of = {name: others for name, others in of.items() if name not in last}

    def test_module_level(self):
        for name, tree in TREES.items():
            bound = []
            for node in tree.body:
                if isinstance(node, ast.ImportFrom):
                    bound += [alias.name for alias in node.names]
                elif isinstance(node, (ast.FunctionDef, ast.ClassDef)):
                    bound.append(node.name)
                elif isinstance(node, ast.Assign):
                    bound += [target.id for target in node.targets]
                else:
                    self.assertIsInstance(node, ast.Expr, name)
                    self.assertIsInstance(node.value.value, str)
            self.assertEqual(len(bound), len(set(bound)), name)

    def test_statements_and_expressions(self):
        for name, node in nodes(STATEMENTS):
            self.fail(f'{name}: line {node.lineno}')
        for name, node in nodes(ast.Div):
            self.fail(f'{name}: /')
        for name, node in nodes(ast.Set):
            self.fail(f'{name}: line {node.lineno}')
        for name, node in nodes(ast.GeneratorExp):
            self.fail(f'{name}: line {node.lineno}: take a list')
        for name, node in nodes(ast.Constant):
            self.assertNotIsInstance(node.value, float, name)
            if isinstance(node.value, str):
                self.assertNotIn('%', node.value, name)

    def test_names(self):
        for name, tree in TREES.items():
            imported = {alias.name for node in ast.walk(tree) if isinstance(node, ast.ImportFrom)
                        for alias in node.names}
            local = set(bound_names(tree))
            top = {node.name for node in tree.body if isinstance(node, (ast.FunctionDef, ast.ClassDef))}
            everything = local | top | imported
            self.assertEqual(local & (imported | top), set(), name)
            self.assertEqual(everything & (BARRED | set(dir(__builtins__) if not isinstance(__builtins__, dict)
                                                        else __builtins__)), set(), name)
            for word in everything:
                self.assertTrue(re.fullmatch(r'_?[A-Za-z][A-Za-z0-9_]*|_', word), f'{name}: {word}')

    def test_every_name_is_known(self):
        for name, tree in TREES.items():
            known = set(bound_names(tree)) | BUILTINS
            for node in tree.body:
                if isinstance(node, ast.ImportFrom):
                    known |= {alias.name for alias in node.names}
            known |= {node.name for node in ast.walk(tree) if isinstance(node, (ast.FunctionDef, ast.ClassDef))}
            for node in ast.walk(tree):
                if isinstance(node, ast.Name):
                    self.assertIn(node.id, known, f'{name}: line {node.lineno}')

    def test_methods_called(self):
        mine = own_methods()
        for name, node in nodes(ast.Call):
            if isinstance(node.func, ast.Attribute):
                self.assertIn(node.func.attr, METHODS | mine, f'{name}: line {node.lineno}')

    def test_special_methods_and_decorators(self):
        for name, node in nodes(ast.FunctionDef):
            if node.name.startswith('__'):
                self.assertIn(node.name, SPECIAL, name)
            for decorator in node.decorator_list:
                self.assertIsInstance(decorator, ast.Name)
                self.assertIn(decorator.id, {'property', 'staticmethod', 'classmethod'})
        for name, node in nodes(ast.ClassDef):
            self.assertEqual(node.decorator_list, [], name)

    def test_names_of_methods_properties_and_attributes_differ(self):
        methods, properties, attributes = set(), set(), set()
        for name, node in nodes(ast.ClassDef):
            defined = [part for part in node.body if isinstance(part, ast.FunctionDef)]
            self.assertEqual(len(defined), len({part.name for part in defined}), f'{name}: {node.name}')
            for part in defined:
                kind = properties if any(one.id == 'property' for one in part.decorator_list) else methods
                kind.add(part.name)
            attributes |= {part.attr for part in ast.walk(node)
                           if isinstance(part, ast.Attribute) and isinstance(part.ctx, ast.Store)}
        self.assertEqual([methods & properties, methods & attributes, properties & attributes], [set()] * 3)

    def test_names_of_classes_are_read_off_objects(self):
        for name, node in nodes(ast.Attribute):
            if node.attr == '__name__':
                self.assertEqual(node.value.attr, '__class__', name)
                self.assertIsInstance(node.value.value, ast.Name)
            else:
                self.assertTrue(not node.attr.startswith('__') or node.attr in ('__class__', '__init__'), name)

    def test_super_calls_methods(self):
        for name, node in nodes(ast.Attribute):
            if isinstance(node.value, ast.Call) and getattr(node.value.func, 'id', '') == 'super':
                self.assertEqual(node.value.args, [], name)
        calls = [ast.unparse(node) for _, node in nodes(ast.Call)]
        self.assertEqual(len([call for call in calls if call == 'super()']),
                         len([call for call in calls if call.startswith('super().')]))

    def test_nothing_is_done_at_last_but_plain_assignments(self):
        for name, node in nodes(ast.Try):
            self.assertEqual(node.finalbody, [], f'{name}: line {node.lineno}')
        for name, node in nodes(ast.FunctionDef):
            if node.name == '__exit__':
                for row in node.body:
                    self.assertIsInstance(row, ast.Assign, name)
                    self.assertIsInstance(row.targets[0], ast.Attribute, name)
                    self.assertIsInstance(row.value, ast.Constant, name)

    def test_any_and_its_kin_take_lists(self):
        for name, node in nodes(ast.Call):
            if isinstance(node.func, ast.Name) and node.func.id in ('any', 'all', 'sum', 'min', 'max', 'sorted'):
                for part in node.args:
                    self.assertNotIsInstance(part, ast.GeneratorExp, f'{name}: line {node.lineno}')

    def test_behind_a_star_of_a_call_stand_names(self):
        for name, node in nodes(ast.Call):
            if any(isinstance(part, ast.Starred) for part in node.args):
                for part in node.args:
                    part = part.value if isinstance(part, ast.Starred) else part
                    self.assertIsInstance(part, (ast.Name, ast.Attribute, ast.Constant), f'{name}: {node.lineno}')

    def test_only_own_errors_are_made_on_the_spot(self):
        for name, node in nodes(ast.Raise):
            self.assertIsInstance(node.exc, ast.Call, name)
            self.assertIsInstance(node.exc.func, ast.Name, name)
        for name, node in nodes(ast.ExceptHandler):
            self.assertIsInstance(node.type, (ast.Name, ast.Tuple), name)

    def test_texts_of_objects_are_plain(self):
        for name, node in nodes(ast.FunctionDef):
            if node.name in ('__str__', '__len__', '__repr__'):
                self.assertIsInstance(node.body[-1], ast.Return)
                value = node.body[-1].value
                plain = isinstance(value, (ast.Constant, ast.JoinedStr)) or (
                    isinstance(value, ast.Call) and isinstance(value.func, ast.Name) and value.func.id in ('str', 'len'))
                self.assertTrue(plain, f'{name}: {node.name}')

    def test_what_operators_and_properties_run_changes_nothing(self):
        for name, node in run_by_operators():
            own = {part.targets[0].id for part in ast.walk(node) if isinstance(part, ast.Assign)
                   and isinstance(part.targets[0], ast.Name) and isinstance(part.value, (ast.List, ast.ListComp))}
            for part in ast.walk(node):
                where = f'{name}: {node.name}: {ast.unparse(part)}' if isinstance(part, ast.expr) else name
                if isinstance(part, ast.Subscript):
                    self.assertIsInstance(part.ctx, ast.Load, where)
                elif isinstance(part, ast.Attribute):
                    self.assertTrue(isinstance(part.ctx, ast.Load) or node.name == '__init__', where)
                elif isinstance(part, ast.AugAssign):
                    self.assertIsInstance(part.value, ast.Constant, where)
                elif isinstance(part, ast.Call) and isinstance(part.func, ast.Attribute):
                    if part.func.attr in CHANGING:
                        self.assertEqual(part.func.attr, 'append', where)
                        self.assertIn(part.func.value.id, own, where)


if __name__ == '__main__':
    unittest.main()
