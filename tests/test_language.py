"""The code keeps to those rules of the language that are easily broken without notice."""

import ast
import builtins
import pathlib
import unittest

FOLDER = pathlib.Path(__file__).resolve().parent.parent / 'farasnothing'
FILES = {path.stem: path.read_text(encoding='utf-8') for path in sorted(FOLDER.glob('*.py'))}
TREES = {name: ast.parse(text) for name, text in FILES.items()}

ALLOWED_BUILTINS = set(
    'len range enumerate zip min max sum abs sorted reversed int str bool bytes list tuple dict set frozenset '
    'isinstance ord repr any all divmod super ValueError TypeError KeyError IndexError LookupError iter next map '
    'ZeroDivisionError'.split())
METHODS = set(
    'append clear copy count endswith extend find get index insert isalnum isalpha isdigit islower isspace isupper '
    'items join keys ljust lower lstrip partition pop remove replace reverse rfind rjust rpartition rsplit rstrip '
    'setdefault split splitlines startswith strip update upper values zfill bit_length'.split())
BARRED = set('register mro elements open input law version_info with_traceback add_note'.split())
BARRED_WORDS = ('type', 'typing', 'enum', 'Enum', 'Flag', 'Generic', 'Protocol', 'ABC', 'namedtuple', 'dataclass')
NODES = (ast.AsyncFor, ast.AsyncFunctionDef, ast.AsyncWith, ast.Await, ast.Global, ast.Import, ast.Set,
         ast.GeneratorExp, ast.NamedExpr, ast.Div, ast.Match, ast.Delete, ast.Nonlocal)


def functions(tree):
    return [node for node in ast.walk(tree) if isinstance(node, ast.FunctionDef)]


def bound_in(function):
    """The parameters and local variables of a function."""
    args = function.args
    names = [arg.arg for arg in [*args.posonlyargs, *args.args, *args.kwonlyargs]]
    return names + [node.id for node in ast.walk(function) if isinstance(node, ast.Name)
                    and isinstance(node.ctx, ast.Store)]


class Language(unittest.TestCase):

    def each(self):
        return [(name, FILES[name], tree) for name, tree in TREES.items()]

    def test_sizes(self):
        for _, text, tree in self.each():
            lines = text.split('\n')
            self.assertLessEqual(len(lines), 399)
            for line in lines:
                self.assertLessEqual(len(line), 120)
                self.assertTrue(all(' ' <= sign <= '~' for sign in line), line)
            for function in functions(tree):
                self.assertLessEqual(function.end_lineno - function.lineno + 1, 40, function.name)

    def test_the_folder_holds_nothing_else(self):
        for path in FOLDER.iterdir():
            self.assertTrue(path.suffix == '.py' or path.name == '__pycache__', path)

    def test_imports(self):
        imports = {}
        for name, _, tree in self.each():
            imports[name] = []
            for node in ast.walk(tree):
                self.assertNotIsInstance(node, ast.Import)
                if isinstance(node, ast.ImportFrom):
                    self.assertTrue(node.module.startswith('farasnothing.') and node in tree.body)
                    source = node.module.split('.')[1]
                    imports[name].append(source)
                    defined = [one.name for one in TREES[source].body
                               if isinstance(one, (ast.FunctionDef, ast.ClassDef))]
                    defined += [one.targets[0].id for one in TREES[source].body if isinstance(one, ast.Assign)]
                    for alias in node.names:
                        self.assertIsNone(alias.asname)
                        self.assertIn(alias.name, defined)
        free = set()
        while len(free) < len(imports):
            more = {name for name, sources in imports.items() if name not in free and set(sources) <= free}
            self.assertTrue(more, 'files import from each other')
            free |= more

    def test_names_of_files_and_modules(self):
        for name, _, tree in self.each():
            imported = [alias.name for node in tree.body if isinstance(node, ast.ImportFrom) for alias in node.names]
            classes = [node.name for node in tree.body if isinstance(node, ast.ClassDef)]
            outer = [node.name for node in tree.body if isinstance(node, (ast.FunctionDef, ast.ClassDef))] + imported
            self.assertEqual(len(outer), len(set(outer)))
            for function in functions(tree):
                for local in bound_in(function):
                    self.assertNotIn(local, [*imported, *classes], f'{name}.{function.name}')
                    self.assertFalse(hasattr(builtins, local), local)
            for one in outer:
                self.assertFalse(hasattr(builtins, one), one)
            used = [node.id for node in ast.walk(tree) if isinstance(node, ast.Name)]
            used += [node.value.id for node in ast.walk(tree)
                     if isinstance(node, ast.Attribute) and isinstance(node.value, ast.Name)]
            for one in imported:
                self.assertIn(one, used, f'{name} does not use what it imports')

    def test_words_and_builtins(self):
        for _, text, tree in self.each():
            for node in ast.walk(tree):
                if isinstance(node, ast.Name):
                    self.assertNotIn(node.id, BARRED)
                    if hasattr(builtins, node.id):
                        self.assertIn(node.id, ALLOWED_BUILTINS)
                if isinstance(node, ast.Attribute):
                    self.assertNotIn(node.attr, BARRED)
                if isinstance(node, ast.Constant) and isinstance(node.value, str):
                    self.assertNotIn('%', node.value)
                if isinstance(node, (ast.Name, ast.FunctionDef, ast.ClassDef)):
                    self.assertNotIn(node.id if isinstance(node, ast.Name) else node.name, BARRED_WORDS)

    def test_no_other_statements_and_expressions(self):
        for _, _, tree in self.each():
            for node in ast.walk(tree):
                self.assertNotIsInstance(node, NODES)
                if isinstance(node, ast.FunctionDef):
                    self.assertEqual(node.decorator_list, [])
                    self.assertIsNotNone(ast.get_docstring(node) or node.name.startswith('__') or None, node.name)
                if isinstance(node, ast.Constant):
                    self.assertNotIsInstance(node.value, (float, complex, bytes))
                if isinstance(node, ast.Compare) and isinstance(node.ops[0], (ast.Is, ast.IsNot)):
                    self.assertIn(node.comparators[0].value, (None, True, False))
                if isinstance(node, ast.Raise):
                    self.assertIsInstance(node.exc.func, ast.Name)

    def test_errors_are_caught_by_their_own_names(self):
        for _, _, tree in self.each():
            for node in ast.walk(tree):
                if isinstance(node, ast.Try):
                    self.assertEqual([node.orelse, node.finalbody], [[], []])
                    self.assertEqual([handler.type.id for handler in node.handlers], ['FarError'])

    def test_leaving_a_block_assigns_attributes_alone(self):
        exits = [function for tree in TREES.values() for function in functions(tree) if function.name == '__exit__']
        for function in exits:
            rows = [node for node in ast.walk(function) if isinstance(node, ast.stmt) and node is not function]
            for row in rows:
                self.assertIsInstance(row, (ast.If, ast.Assign))
            for row in rows:
                if isinstance(row, ast.Assign):
                    self.assertIsInstance(row.targets[0], ast.Attribute)
                    self.assertIsInstance(row.value, ast.Attribute)
            calls = [node for node in ast.walk(function) if isinstance(node, ast.Call)]
            self.assertEqual(calls, [])
        self.assertEqual(len(exits), 1)

    def test_behind_a_star_in_a_call_stands_a_name(self):
        for _, _, tree in self.each():
            for node in ast.walk(tree):
                if isinstance(node, ast.Call):
                    for arg in node.args:
                        if isinstance(arg, ast.Starred):
                            self.assertIsInstance(arg.value, (ast.Name, ast.Attribute, ast.List, ast.Tuple))

    def test_methods(self):
        own = [node.name for tree in TREES.values() for node in functions(tree)]
        for _, _, tree in self.each():
            for node in ast.walk(tree):
                if isinstance(node, ast.Call) and isinstance(node.func, ast.Attribute):
                    self.assertTrue(node.func.attr in METHODS or node.func.attr in own or node.func.attr == '__init__',
                                    node.func.attr)

    def test_methods_and_attributes_of_a_class_have_different_names(self):
        methods = {function.name for tree in TREES.values() for one in ast.walk(tree) if isinstance(one, ast.ClassDef)
                   for function in functions(one)}
        attributes = {node.attr for tree in TREES.values() for node in ast.walk(tree)
                      if isinstance(node, ast.Attribute) and isinstance(node.ctx, ast.Store)}
        self.assertEqual(methods & attributes, set())

    def test_generators_have_their_own_names(self):
        generators = [function.name for tree in TREES.values() for function in functions(tree)
                      if any(isinstance(node, (ast.Yield, ast.YieldFrom)) for node in ast.walk(function))]
        self.assertEqual(generators, ['run'])
        self.assertEqual([function.name for tree in TREES.values() for function in functions(tree)].count('run'), 1)


if __name__ == '__main__':
    unittest.main()
