"""The rules of LANGUAGE.md that can be seen in the files of the package."""

import ast
import builtins
import unittest
from pathlib import Path

PACKAGE = Path(__file__).resolve().parent.parent / "waycircuits"
FILES = sorted(PACKAGE.glob("*.py"))
TREES = {path.stem: ast.parse(path.read_text()) for path in FILES}
LIBRARY = {"math": {"gcd"}}
BUILTINS = {
    "len", "range", "enumerate", "zip", "min", "max", "sum", "abs", "sorted", "reversed", "int", "str", "bool", "list",
    "tuple", "dict", "set", "isinstance", "ord", "any", "all", "divmod", "ValueError", "LookupError"}
METHODS = set((
    "append clear copy count endswith extend find get index insert isalnum isalpha isdigit islower isspace isupper items "
    "join keys ljust lower lstrip partition pop remove replace reverse rfind rjust rpartition rsplit rstrip setdefault "
    "split splitlines startswith strip update upper values zfill bit_length removeprefix").split())
BARRED = set((
    "register mro elements open input law version_info with_traceback add_note attrgetter breakpoint builtins compile "
    "copyright credits delattr dir eval exec exit gc globals help id importlib license locals methodcaller os quit super "
    "type vars sys typing enum Enum Generic Protocol ABC namedtuple dataclass overload contextmanager").split())
SPECIAL = {"__init__", "__eq__", "__ne__", "__len__", "__str__"}
NODES = (
    ast.GeneratorExp, ast.Lambda, ast.Yield, ast.YieldFrom, ast.Global, ast.Nonlocal, ast.AsyncFunctionDef, ast.Await,
    ast.With, ast.Match, ast.NamedExpr, ast.Import, ast.Div, ast.MatMult, ast.Mod, ast.AnnAssign, ast.Delete)


def nodes(tree, *kinds):
    return [node for node in ast.walk(tree) if isinstance(node, kinds)]


def bound_names(function):
    """The parameters, and the names that are assigned in a function."""
    told = function.args
    names = {one.arg for one in [*told.posonlyargs, *told.args, *told.kwonlyargs]}
    return names | {node.id for node in nodes(function, ast.Name) if isinstance(node.ctx, ast.Store)}


class Language(unittest.TestCase):
    def test_files(self):
        found = {path.name for path in PACKAGE.iterdir() if path.name != "__pycache__"}
        self.assertEqual(found, {path.name for path in FILES})
        self.assertLessEqual(len(FILES), 100)
        for path in FILES:
            self.assertRegex(path.stem, r"^([a-z][a-z0-9]*|__init__)$")
            self.assertNotIn(path.stem, set(dir(builtins)) | BARRED)

    def test_characters_and_sizes(self):
        for path in FILES:
            text = path.read_bytes().decode("ascii")
            self.assertTrue(all(sign == "\n" or " " <= sign <= "~" for sign in text), path)
            self.assertLessEqual(len(text.splitlines()), 399, path)
            self.assertLessEqual(max(map(len, text.splitlines())), 120, path)
            self.assertNotIn("_" + "wall", text)

    def test_functions_are_small(self):
        for tree in TREES.values():
            for function in nodes(tree, ast.FunctionDef):
                self.assertLessEqual(function.end_lineno - function.lineno + 1, 40, function.name)
                self.assertEqual(function.decorator_list, [])

    def test_module_level(self):
        for stem, tree in TREES.items():
            for at, node in enumerate(tree.body):
                if isinstance(node, ast.Expr):
                    self.assertTrue(at == 0 and isinstance(node.value, ast.Constant), stem)
                elif isinstance(node, ast.Assign):
                    self.assertEqual(len(node.targets), 1)
                    self.assertTrue(self.is_plain(node.value, {one.name for one in tree.body[:at] if isinstance(one, ast.FunctionDef)}))
                else:
                    self.assertIsInstance(node, (ast.ImportFrom, ast.FunctionDef, ast.ClassDef), stem)

    def is_plain(self, value, functions):
        """Whether a value at module level is a literal, or a dict of literals and functions that are defined above."""
        if isinstance(value, ast.Dict):
            return all(isinstance(key, ast.Constant) and self.is_plain(one, functions) for key, one in zip(value.keys, value.values))
        if isinstance(value, ast.Name):
            return value.id in functions
        ast.literal_eval(value)
        return not isinstance(value, (ast.List, ast.Set))

    def test_nodes_that_are_not_used(self):
        for stem, tree in TREES.items():
            self.assertEqual([ast.dump(node) for node in nodes(tree, *NODES)], [], stem)
            for node in nodes(tree, ast.Constant):
                self.assertNotIsInstance(node.value, (float, complex), stem)
                self.assertFalse(isinstance(node.value, str) and "%" in node.value, stem)
            for node in nodes(tree, ast.Compare):
                for sign, right in zip(node.ops, node.comparators):
                    if isinstance(sign, (ast.Is, ast.IsNot)):
                        self.assertTrue(isinstance(right, ast.Constant) and right.value in (None, True, False), stem)
            for node in nodes(tree, ast.BinOp):
                if isinstance(node.op, ast.Pow):
                    self.assertIsInstance(node.right, ast.Constant, stem)

    def test_imports(self):
        for stem, tree in TREES.items():
            for node in nodes(tree, ast.ImportFrom):
                self.assertIn(node, tree.body)
                self.assertEqual(node.level, 0)
                names = {alias.name for alias in node.names}
                self.assertEqual({alias.asname for alias in node.names}, {None})
                if node.module in LIBRARY:
                    self.assertLessEqual(names, LIBRARY[node.module])
                    continue
                self.assertTrue(node.module.startswith("waycircuits."), stem)
                self.assertLessEqual(names, self.defined(TREES[node.module.split(".")[1]]), (stem, node.module))
                used = {one.id for one in nodes(tree, ast.Name)}
                self.assertLessEqual(names, used, stem)

    def defined(self, tree):
        """The names that a file itself defines."""
        names = {node.name for node in tree.body if isinstance(node, (ast.FunctionDef, ast.ClassDef))}
        return names | {node.targets[0].id for node in tree.body if isinstance(node, ast.Assign)}

    def test_no_circle_of_imports(self):
        leads = {stem: {node.module.split(".")[1] for node in nodes(tree, ast.ImportFrom)
                        if node.module.startswith("waycircuits.")} for stem, tree in TREES.items()}
        while leads:
            ends = [stem for stem, others in leads.items() if not others & set(leads)]
            self.assertTrue(ends, leads)
            leads = {stem: others for stem, others in leads.items() if stem not in ends}

    def test_names(self):
        for stem, tree in TREES.items():
            taken = {alias.name for node in nodes(tree, ast.ImportFrom) for alias in node.names}
            taken |= {node.name for node in nodes(tree, ast.ClassDef)}
            for function in nodes(tree, ast.FunctionDef):
                bound = bound_names(function)
                self.assertEqual(bound & taken, set(), (stem, function.name))
                self.assertEqual(bound & (set(dir(builtins)) | BARRED), set(), (stem, function.name))
                self.assertNotIn(function.name, set(dir(builtins)) | BARRED)
                if function.name.startswith("__"):
                    self.assertIn(function.name, SPECIAL)
            once = list(self.defined(tree)) + [alias.name for node in nodes(tree, ast.ImportFrom) for alias in node.names]
            self.assertEqual(len(once), len(set(once)), stem)

    def test_builtins(self):
        for stem, tree in TREES.items():
            used = {node.id for node in nodes(tree, ast.Name)} & set(dir(builtins))
            self.assertLessEqual(used, BUILTINS, stem)

    def test_methods_of_builtin_values(self):
        own = {function.name for tree in TREES.values() for one in nodes(tree, ast.ClassDef)
               for function in nodes(one, ast.FunctionDef)}
        for stem, tree in TREES.items():
            for call in nodes(tree, ast.Call):
                if isinstance(call.func, ast.Attribute):
                    self.assertIn(call.func.attr, METHODS | own, stem)

    def test_attributes_are_assigned_by_some_class(self):
        assigned = {node.attr for tree in TREES.values() for node in nodes(tree, ast.Attribute)
                    if isinstance(node.ctx, ast.Store)}
        methods = {function.name for tree in TREES.values() for one in nodes(tree, ast.ClassDef)
                   for function in nodes(one, ast.FunctionDef)}
        self.assertEqual(assigned & methods, set())
        for tree in TREES.values():
            for node in nodes(tree, ast.Attribute):
                self.assertIn(node.attr, assigned | methods | METHODS)
