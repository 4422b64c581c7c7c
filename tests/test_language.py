"""The main rules of the language that the package keeps to, as far as they can be seen in its files."""

import ast
import builtins
import pathlib
import re
import unittest

FOLDER = pathlib.Path(__file__).resolve().parent.parent / 'dyedpours'
FILES = {path.stem: path for path in sorted(FOLDER.glob('*.py'))}
BUILTINS = set(
    'len range enumerate zip min max sum abs sorted reversed int str bool list tuple dict set isinstance ord repr '
    'any all divmod ValueError'.split()
)
METHODS = set(
    'append clear copy count endswith extend find get index insert isalnum isalpha isdigit islower isspace isupper '
    'items join keys ljust lower lstrip partition pop remove replace reverse rfind rjust rpartition rsplit rstrip '
    'setdefault split splitlines startswith strip update upper values zfill bit_length'.split()
)
UNUSED = (
    ast.AsyncFunctionDef, ast.Await, ast.Global, ast.Nonlocal, ast.Try, ast.With, ast.Lambda, ast.GeneratorExp,
    ast.Yield, ast.YieldFrom, ast.Import, ast.Match, ast.NamedExpr, ast.Div, ast.Delete, ast.Starred, ast.AnnAssign,
    ast.Mod, ast.Pow,
)
USED = {'journals': ['Try'], 'wharves': ['With']}
BARRED = re.compile(
    r'\b(type|typing|typing_extensions|enum|Enum|IntEnum|StrEnum|Flag|IntFlag|Generic|Protocol|ABC|ABCMeta|namedtuple|'
    r'NamedTuple|TypedDict|TYPE_CHECKING|abstractmethod)\b|dataclass|overload|contextmanager'
)
NO_NAMES = set(
    'register mro elements open input law version_info with_traceback add_note compile exit id dir vars help eval exec '
    'os gc super hash format'.split()
)


def parts(module):
    """All nodes of a module."""
    return list(ast.walk(ast.parse(FILES[module].read_text())))


def of_kind(module, *kinds):
    """All nodes of these kinds of a module."""
    return [node for node in parts(module) if isinstance(node, kinds)]


def defined_in(module):
    """The names that a module itself defines."""
    names = []
    for node in ast.parse(FILES[module].read_text()).body:
        if isinstance(node, (ast.FunctionDef, ast.ClassDef)):
            names.append(node.name)
        if isinstance(node, ast.Assign):
            names.append(node.targets[0].id)
    return names


def imports_of(module):
    """The names that a module imports, with the modules from which."""
    return {name.name: node.module for node in of_kind(module, ast.ImportFrom) for name in node.names}


class Language(unittest.TestCase):
    def test_sizes_and_signs(self):
        for module, path in FILES.items():
            text = path.read_text()
            self.assertRegex(module, r'^[a-z_][a-z0-9_]*$')
            self.assertTrue(all(sign == '\n' or ' ' <= sign <= '~' for sign in text), module)
            self.assertLess(len(text.split('\n')), 400, module)
            self.assertLessEqual(max(map(len, text.split('\n'))), 120, module)
            for node in of_kind(module, ast.FunctionDef):
                self.assertLessEqual(node.end_lineno - node.lineno + 1, 40, (module, node.name))
                self.assertEqual(node.decorator_list, [])

    def test_docstrings(self):
        for module in FILES:
            for node in of_kind(module, ast.Module, ast.ClassDef, ast.FunctionDef):
                if not getattr(node, 'name', '').startswith('__'):
                    self.assertTrue(ast.get_docstring(node), (module, getattr(node, 'name', '')))

    def test_module_level(self):
        for module, path in FILES.items():
            for node in ast.parse(path.read_text()).body:
                self.assertIsInstance(node, (ast.Expr, ast.ImportFrom, ast.FunctionDef, ast.ClassDef, ast.Assign))
                if isinstance(node, (ast.Expr, ast.Assign)):
                    self.assertIsInstance(node.value, ast.Constant)
            names = defined_in(module) + list(imports_of(module))
            self.assertEqual(len(names), len(set(names)), module)

    def test_imports_name_the_very_file(self):
        for module in FILES:
            for name, source in imports_of(module).items():
                package, its = source.split('.')
                self.assertEqual(package, 'dyedpours')
                self.assertIn(name, defined_in(its))
                used = [node.id for node in of_kind(module, ast.Name)]
                self.assertIn(name, used, (module, name))

    def test_no_two_files_import_from_each_other(self):
        needs = {module: {source.split('.')[1] for source in imports_of(module).values()} for module in FILES}
        while needs:
            free = [module for module in needs if not needs[module] & set(needs)]
            self.assertTrue(free, needs)
            needs = {module: needs[module] for module in needs if module not in free}

    def test_nodes_and_signs_that_are_not_used(self):
        for module in FILES:
            self.assertEqual([type(node).__name__ for node in of_kind(module, *UNUSED)], USED.get(module, []), module)
            for node in of_kind(module, ast.Try):
                self.assertEqual([ast.unparse(handler.type) for handler in node.handlers], ['PourError'])
                self.assertEqual(node.finalbody, [])
            for node in of_kind(module, ast.Constant):
                self.assertIsInstance(node.value, (int, str, type(None)))
                self.assertNotIn('%', str(node.value))
            for node in of_kind(module, ast.Compare):
                for sign, its in zip(node.ops, node.comparators):
                    if isinstance(sign, (ast.Is, ast.IsNot)):
                        self.assertIn(its.value, (None, True, False))

    def test_sets_are_made_where_they_are_used(self):
        for module in FILES:
            self.assertEqual(of_kind(module, ast.Set, ast.SetComp), [])
            within = [node.args[0] for node in of_kind(module, ast.Call) if name_of(node) in ('sorted', 'len')]
            for node in of_kind(module, ast.Call):
                if name_of(node) == 'set':
                    self.assertIn(ast.dump(node), [ast.dump(its) for its in within])

    def test_names(self):
        for module in FILES:
            taken = set(imports_of(module)) | {node.name for node in of_kind(module, ast.ClassDef)}
            bound = [node.id for node in of_kind(module, ast.Name) if not isinstance(node.ctx, ast.Load)]
            bound += [node.arg for node in of_kind(module, ast.arg)]
            for name in bound + defined_in(module):
                self.assertFalse(hasattr(builtins, name), (module, name))
            for name in bound:
                self.assertNotIn(name, taken, module)
            known = set(bound) | taken | set(defined_in(module)) | BUILTINS
            for node in of_kind(module, ast.Name):
                self.assertIn(node.id, known, module)

    def test_names_that_are_not_used(self):
        for module in FILES:
            nodes = parts(module)
            names = [node.id for node in nodes if isinstance(node, ast.Name)]
            names += [node.attr for node in nodes if isinstance(node, ast.Attribute)]
            names += [node.arg for node in nodes if isinstance(node, (ast.arg, ast.keyword))]
            names += defined_in(module) + list(imports_of(module))
            self.assertEqual(set(names) & NO_NAMES, set(), module)

    def test_what_ends_a_block(self):
        found = [node for module in FILES for node in of_kind(module, ast.FunctionDef) if node.name == '__exit__']
        self.assertEqual([ast.unparse(node.args) for node in found], ['self, kind, value, trace'])
        rows = [row for row in ast.walk(found[0]) if isinstance(row, ast.stmt) and row is not found[0]]
        for row in rows:
            self.assertRegex(ast.unparse(row), r'^if kind is not None or self\.kept is None:|^wharf(\.[a-z]+)? = self\.[a-z]+$')

    def test_methods(self):
        own = {node.name for module in FILES for node in of_kind(module, ast.FunctionDef)}
        for module in FILES:
            for node in of_kind(module, ast.Call):
                if isinstance(node.func, ast.Attribute):
                    self.assertIn(node.func.attr, METHODS | own, module)
                    if node.func.attr in METHODS:
                        self.assertEqual(node.keywords, [])

    def test_words_that_do_not_occur(self):
        for module in FILES:
            tree = ast.parse(FILES[module].read_text())
            for node in ast.walk(tree):
                if isinstance(node, (ast.Module, ast.ClassDef, ast.FunctionDef)) and ast.get_docstring(node):
                    node.body[0].value.value = ''
            self.assertIsNone(BARRED.search(ast.unparse(tree)), module)


def name_of(call):
    """The bare name that is called, if it is one."""
    return call.func.id if isinstance(call.func, ast.Name) else None


if __name__ == '__main__':
    unittest.main()
