"""Whether the package keeps to those rules of the language that are easily broken unawares."""

import ast
import re
import unittest
from pathlib import Path

PACKAGE = Path(__file__).resolve().parent.parent / "soundrules"
FILES = sorted(PACKAGE.glob("*.py"))

BUILTINS = set("""len range enumerate zip min max sum abs sorted reversed int str bool bytes list tuple dict set frozenset
    isinstance ord repr any all divmod Exception ValueError TypeError KeyError IndexError LookupError ZeroDivisionError
    ArithmeticError OverflowError RuntimeError NotImplementedError AttributeError StopIteration""".split())
METHODS = set("""append clear copy count endswith extend find get index insert isalnum isalpha isdigit islower isspace
    isupper items join keys ljust lower lstrip partition pop remove replace reverse rfind rjust rpartition rsplit rstrip
    setdefault split splitlines startswith strip update upper values zfill bit_length add discard""".split())
# Of the package's own classes: a name is never both.
FIELDS = {"part", "row", "name", "stock", "kept", "last"}
OWN_METHODS = {"say", "keep", "thing_by", "judge"}
BARRED_WORDS = re.compile(
    r"\b(type|typing|typing_extensions|enum|Enum|IntEnum|StrEnum|Flag|IntFlag|Generic|Protocol|ABC|ABCMeta|namedtuple"
    r"|NamedTuple|TypedDict|TYPE_CHECKING|abstractmethod)\b|dataclass|overload|contextmanager")
BARRED_NODES = (ast.With, ast.Match, ast.Global, ast.Nonlocal, ast.Yield, ast.YieldFrom, ast.AsyncFunctionDef, ast.Await,
                ast.GeneratorExp, ast.NamedExpr, ast.Div, ast.Import, ast.MatMult)


class Language(unittest.TestCase):
    def each(self, kind):
        for path in FILES:
            for node in ast.walk(ast.parse(path.read_text())):
                if isinstance(node, kind):
                    yield path.name, node

    def test_files(self):
        self.assertIn("__init__.py", [path.name for path in FILES])
        others = [path.name for path in PACKAGE.iterdir() if path.suffix != ".py" and path.name != "__pycache__"]
        self.assertEqual(others, [])

    def test_signs_lines_and_words(self):
        for path in FILES:
            text = path.read_text()
            self.assertLessEqual(len(text.splitlines()), 400, path.name)
            for line in text.splitlines():
                self.assertLessEqual(len(line), 120, (path.name, line))
            self.assertRegex(text, r"\A[ -~\n]*\Z", path.name)
            self.assertIsNone(BARRED_WORDS.search(text), path.name)

    def test_functions_are_small_and_plain(self):
        for name, node in self.each(ast.FunctionDef):
            self.assertLessEqual(node.end_lineno - node.lineno + 1, 40, (name, node.name))
            self.assertEqual(node.decorator_list, [], (name, node.name))
            self.assertIsNone(node.args.vararg or node.args.kwarg, (name, node.name))
            self.assertEqual(node.args.posonlyargs, [], (name, node.name))

    def test_statements_and_expressions(self):
        for name, node in self.each(BARRED_NODES):
            self.fail((name, node.lineno, node))
        for name, node in self.each((ast.For, ast.While)):
            self.assertEqual(node.orelse, [], (name, node.lineno))
        for name, node in self.each(ast.Constant):
            self.assertNotIsInstance(node.value, (float, complex), (name, node.lineno))
            self.assertFalse(isinstance(node.value, str) and "%" in node.value, (name, node.lineno))
        for name, node in self.each(ast.Compare):
            for sign, right in zip(node.ops, node.comparators):
                if isinstance(sign, (ast.Is, ast.IsNot)):
                    self.assertTrue(isinstance(right, ast.Constant) and right.value in (None, True, False), name)

    def test_iterated_at_once(self):
        for name, node in self.each((ast.Assign, ast.Return)):
            value = node.value
            if isinstance(value, ast.Call):
                called = value.func.id if isinstance(value.func, ast.Name) else getattr(value.func, "attr", None)
                self.assertNotIn(called, ("range", "zip", "enumerate", "reversed", "items", "keys", "values"), (name, node.lineno))
            self.assertNotIsInstance(value, (ast.Set, ast.SetComp), (name, node.lineno))

    def test_imports_do_not_go_round(self):
        above = {path.stem: {node.module.split(".")[1] for node in ast.walk(ast.parse(path.read_text()))
                             if isinstance(node, ast.ImportFrom)} for path in FILES}
        while above:
            free = [name for name, others in above.items() if not others & set(above)]
            self.assertNotEqual(free, [], above)
            above = {name: others for name, others in above.items() if name not in free}

    def test_imports(self):
        for name, node in self.each(ast.ImportFrom):
            self.assertEqual(node.level, 0, name)
            self.assertTrue(node.module.startswith("soundrules."), (name, node.module))
            source = PACKAGE / (node.module.split(".")[1] + ".py")
            defined = [getattr(each, "name", None) or each.targets[0].id for each in ast.parse(source.read_text()).body
                       if isinstance(each, (ast.FunctionDef, ast.ClassDef, ast.Assign))]
            for alias in node.names:
                self.assertIn(alias.name, defined, name)

    def test_fields_and_methods(self):
        fields = {node.attr for name, node in self.each(ast.Attribute) if isinstance(node.ctx, ast.Store)}
        methods = {node.name for name, each in self.each(ast.ClassDef) for node in each.body
                   if isinstance(node, ast.FunctionDef)}
        self.assertEqual(fields, FIELDS)
        self.assertEqual(methods - {"__init__"}, OWN_METHODS)
        self.assertEqual(fields & methods, set())
        self.assertEqual((fields | OWN_METHODS) & METHODS, set())

    def test_names(self):
        for path in FILES:
            tree = ast.parse(path.read_text())
            own = [node.name for node in tree.body if isinstance(node, (ast.FunctionDef, ast.ClassDef))]
            outside = [alias.name for node in ast.walk(tree) if isinstance(node, ast.ImportFrom) for alias in node.names]
            bound = [node.arg for node in ast.walk(tree) if isinstance(node, ast.arg)]
            bound += [node.id for node in ast.walk(tree) if isinstance(node, ast.Name) and isinstance(node.ctx, ast.Store)]
            bound += [node.name for outer in tree.body if isinstance(outer, ast.FunctionDef) for node in ast.walk(outer)
                      if isinstance(node, ast.FunctionDef) and node != outer]
            for node in bound:
                self.assertNotIn(node, BUILTINS | set(outside) | set(own), path.name)
                self.assertRegex(node, r"\A[A-Za-z][A-Za-z0-9_]*\Z", path.name)
            for node in ast.walk(tree):
                if isinstance(node, ast.Name) and isinstance(node.ctx, ast.Load):
                    self.assertIn(node.id, BUILTINS | set(own) | set(outside) | set(bound), path.name)
                if isinstance(node, ast.Attribute):
                    self.assertIn(node.attr, METHODS | FIELDS | OWN_METHODS, path.name)


if __name__ == "__main__":
    unittest.main()
