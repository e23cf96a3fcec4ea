"""Those rules of the language of the package that a test can see easily."""

import ast
import builtins
import unittest
from pathlib import Path

TOP = Path(__file__).resolve().parent.parent
FOLDER = TOP / "quasifloors"
FILES = sorted(FOLDER.glob("*.py"))
LIBRARY = {"math": {"gcd", "lcm", "isqrt", "comb", "perm", "factorial"}}
BUILTINS = """len range enumerate zip min max sum abs sorted reversed int str bool list tuple dict set isinstance ord
repr any all divmod Exception ValueError TypeError KeyError IndexError LookupError ZeroDivisionError""".split()
METHODS = """append clear copy count endswith extend find get index insert isalnum isalpha isdigit islower isspace
isupper items join keys ljust lower lstrip partition pop remove replace reverse rfind rjust rpartition rsplit rstrip
setdefault split splitlines startswith strip update upper values zfill bit_length""".split()
BANNED = (ast.Div, ast.Global, ast.AsyncFunctionDef, ast.Await, ast.Import, ast.Set, ast.SetComp,
          ast.GeneratorExp, ast.Yield, ast.YieldFrom, ast.Try, ast.With, ast.Starred, ast.Pow,
          ast.AnnAssign, ast.NamedExpr)


def tree(path):
    return ast.parse(path.read_text(encoding="ascii"))


def bound_names(scope):
    """All names that are given a meaning in a part of a file."""
    for node in ast.walk(scope):
        if isinstance(node, (ast.FunctionDef, ast.ClassDef)):
            yield node.name
        elif isinstance(node, ast.arg):
            yield node.arg
        elif isinstance(node, ast.Name) and isinstance(node.ctx, ast.Store):
            yield node.id
        elif isinstance(node, ast.alias):
            yield node.name


class Language(unittest.TestCase):
    def test_folder(self):
        self.assertIn(FOLDER / "__init__.py", FILES)
        for path in FOLDER.iterdir():
            if path.name != "__pycache__":
                self.assertIn(path, FILES)
        self.assertEqual(len({path.stem for path in FILES} & set(dir(builtins))), 0)

    def test_lines(self):
        for path in FILES:
            data = path.read_bytes()
            self.assertEqual([k for k in data if not (k == 10 or 32 <= k <= 126)], [], path)
            lines = data.decode("ascii").split("\n")
            self.assertLess(len(lines), 400, path)
            self.assertLessEqual(max([len(line) for line in lines]), 120, path)
            self.assertEqual([line for line in lines if line != line.rstrip()], [], path)

    def test_functions_are_small(self):
        for path in FILES:
            for node in ast.walk(tree(path)):
                if isinstance(node, ast.FunctionDef):
                    self.assertLessEqual(node.end_lineno - node.lineno + 1, 40, (path, node.name))
                    self.assertEqual(node.decorator_list, [])

    def test_imports(self):
        for path in FILES:
            told = tree(path)
            found = [node for node in ast.walk(told) if isinstance(node, ast.ImportFrom)]
            start = 1 if ast.get_docstring(told) else 0
            self.assertEqual(found, told.body[start:start + len(found)], path)
            for node in found:
                self.assertEqual(node.level, 0)
                names = {alias.name for alias in node.names}
                self.assertEqual({alias.asname for alias in node.names}, {None})
                if node.module in LIBRARY:
                    self.assertLessEqual(names, LIBRARY[node.module])
                else:
                    self.assertTrue(node.module.startswith("quasifloors."), (path, node.module))
                    there = tree(FOLDER / (node.module.partition(".")[2] + ".py"))
                    self.assertLessEqual(names, module_names(there), path)

    def test_imports_are_used(self):
        for path in FILES:
            told = tree(path)
            used = {node.id for node in ast.walk(told) if isinstance(node, ast.Name)}
            for node in told.body:
                if isinstance(node, ast.ImportFrom):
                    self.assertLessEqual({alias.name for alias in node.names}, used, path)

    def test_no_circle_of_imports(self):
        leads = {path.stem: [node.module.partition(".")[2] for node in tree(path).body
                             if isinstance(node, ast.ImportFrom) and node.module not in LIBRARY] for path in FILES}
        while leads:
            ends = [name for name, others in leads.items() if not set(others) & set(leads)]
            self.assertTrue(ends, leads)
            for name in ends:
                del leads[name]

    def test_module_level(self):
        for path in FILES:
            names = []
            for node in tree(path).body:
                self.assertIsInstance(node, (ast.ImportFrom, ast.FunctionDef, ast.ClassDef, ast.Assign, ast.Expr), path)
                if isinstance(node, ast.Expr):
                    self.assertIsInstance(node.value, ast.Constant)
                if isinstance(node, ast.Assign):
                    self.check_plain(node.value, names)
                    names += [target.id for target in node.targets]
                if isinstance(node, (ast.FunctionDef, ast.ClassDef)):
                    names.append(node.name)
                if isinstance(node, ast.ImportFrom):
                    names += [alias.name for alias in node.names]
            self.assertEqual(len(names), len(set(names)), path)

    def check_plain(self, value, names):
        """A plain value, or a dict of functions that are defined above in the file."""
        if isinstance(value, ast.Dict) and all([isinstance(told, ast.Name) for told in value.values]):
            self.assertLessEqual({told.id for told in value.values}, set(names))
        else:
            ast.literal_eval(value)

    def test_texts_with_braces(self):
        # In braces stand only names and calls of functions with names, without formats.
        for path in FILES:
            for node in ast.walk(tree(path)):
                if isinstance(node, ast.FormattedValue):
                    self.assertEqual((node.conversion, node.format_spec), (-1, None))
                    told = {type(part) for part in ast.walk(node.value)}
                    self.assertLessEqual(told, {ast.Name, ast.Call, ast.Load}, ast.unparse(node))
                if isinstance(node, ast.Constant) and isinstance(node.value, str):
                    self.assertNotIn("%", node.value)

    def test_classes(self):
        for path in FILES:
            for node in tree(path).body:
                if isinstance(node, ast.ClassDef):
                    inner = node.body[1:] if ast.get_docstring(node) else node.body
                    self.assertEqual((node.decorator_list, node.keywords), ([], []))
                    for told in inner:
                        self.assertIsInstance(told, (ast.FunctionDef, ast.Pass))
                    methods = {told.name for told in inner if isinstance(told, ast.FunctionDef)}
                    stored = {told.attr for told in ast.walk(node) if isinstance(told, ast.Attribute)
                              and isinstance(told.ctx, ast.Store)}
                    self.assertEqual(methods & stored, set())
                    self.assertEqual((methods | stored) & (set(METHODS) | set(dir(builtins))), set())

    def test_nothing_that_is_not_used(self):
        for path in FILES:
            for node in ast.walk(tree(path)):
                self.assertNotIsInstance(node, BANNED, (path, getattr(node, "lineno", 0)))
                if isinstance(node, ast.Constant):
                    self.assertNotIsInstance(node.value, (float, complex, bytes))
                if isinstance(node, ast.Compare):
                    for operator, other in zip(node.ops, node.comparators):
                        if isinstance(operator, (ast.Is, ast.IsNot)):
                            self.assertIsInstance(other, ast.Constant)
                if isinstance(node, ast.Call) and isinstance(node.func, ast.Attribute):
                    if not (isinstance(node.func.value, ast.Name) and node.func.value.id == "self"):
                        self.assertTrue(node.func.attr in METHODS or node.func.attr == "__init__", node.func.attr)

    def test_functions_within_functions(self):
        # Only sorted has a key, and that is an item of its one parameter.
        for path in FILES:
            keys = []
            for node in ast.walk(tree(path)):
                if isinstance(node, ast.FunctionDef):
                    inner = [told for told in ast.walk(node) if isinstance(told, ast.FunctionDef)]
                    self.assertEqual(inner, [node], path)
                if isinstance(node, ast.Call):
                    for keyword in node.keywords:
                        self.assertEqual((node.func.id, keyword.arg), ("sorted", "key"), path)
                        self.assertRegex(ast.unparse(keyword.value), r"^lambda (\w+): \1\[\d\]$")
                        keys.append(keyword.value)
            lambdas = [node for node in ast.walk(tree(path)) if isinstance(node, ast.Lambda)]
            self.assertEqual(len(lambdas), len(keys), path)

    def test_names(self):
        known = set(dir(builtins)) - {"_"}
        for path in FILES:
            told = tree(path)
            here = set(bound_names(told))
            self.assertEqual(here & known, set(), path)
            for name in here - {"__init__", "_"}:
                # One underscore and then a letter, for methods that only their own class calls.
                self.assertRegex(name, "^_?[A-Za-z][A-Za-z0-9_]*$", path)
            for node in ast.walk(told):
                if isinstance(node, ast.Name) and node.id not in here:
                    self.assertIn(node.id, BUILTINS, (path, node.lineno))
                if isinstance(node, ast.Name) and node.id == "_":
                    self.assertIsInstance(node.ctx, ast.Store)

    def test_local_names(self):
        for path in FILES:
            body = tree(path).body
            imported = {alias.name for node in body if isinstance(node, ast.ImportFrom) for alias in node.names}
            imported |= {node.name for node in body if isinstance(node, ast.ClassDef)}
            for node in body:
                if isinstance(node, ast.ClassDef):
                    body = body + [told for told in node.body if isinstance(told, ast.FunctionDef)]
            for node in body:
                if isinstance(node, ast.FunctionDef):
                    self.assertEqual(set(bound_names(node)) & imported, set(), (path, node.name))


def module_names(told):
    names = set()
    for node in told.body:
        if isinstance(node, (ast.FunctionDef, ast.ClassDef)):
            names.add(node.name)
        elif isinstance(node, ast.Assign):
            names |= {target.id for target in node.targets}
    return names


if __name__ == "__main__":
    unittest.main()
