"""Rules of the language subset that can be told from the text of the package."""

import ast
import builtins
import unittest
from pathlib import Path

PACKAGE = Path(__file__).resolve().parent.parent / "learnways"

BUILTINS = set(
    "len range enumerate zip min max sum abs sorted reversed int str bool bytes list tuple dict set isinstance ord repr"
    " any all divmod iter next map property staticmethod classmethod super Exception ValueError TypeError KeyError"
    " IndexError LookupError ZeroDivisionError ArithmeticError OverflowError RuntimeError NotImplementedError"
    " NotImplemented".split()
)
VALUE_METHODS = set(
    "append clear copy count endswith extend find get index insert isalnum isalpha isdigit islower isspace isupper items"
    " join keys ljust lower lstrip partition pop remove replace reverse rfind rjust rpartition rsplit rstrip setdefault"
    " split splitlines startswith strip update upper values zfill bit_length".split()
)
DUNDERS = set(
    "__init__ __eq__ __repr__ __str__ __len__ __iter__ __lt__ __le__ __gt__ __ge__ __ne__ __add__ __and__ __or__"
    " __iadd__ __isub__ __contains__ __getitem__ __call__ __enter__ __exit__".split()
)
BARRED_NAMES = set(
    "register mro elements open input law version_info with_traceback add_note attrgetter breakpoint builtins compile"
    " copyright credits delattr dir eval exec exit gc getattr globals hasattr help id importlib license locals"
    " methodcaller os quit setattr type vars sys typing enum chr frozenset filter".split()
)
LIBRARY = {"heapq", "math"}
# Sets, generator expressions and += are allowed at some places only; the package does without them.
BARRED_NODES = (
    ast.Global, ast.AsyncFunctionDef, ast.Await, ast.Set, ast.SetComp, ast.GeneratorExp, ast.AugAssign, ast.Import,
    ast.Div,
)


def trees():
    return {path: ast.parse(path.read_text()) for path in sorted(PACKAGE.rglob("*.py"))}


def named(tree):
    """The names that a tree binds, reads, or gives to attributes and arguments."""
    for node in ast.walk(tree):
        if isinstance(node, ast.Name):
            yield node.id, node
        elif isinstance(node, ast.Attribute):
            yield node.attr, node
        elif isinstance(node, ast.arg):
            yield node.arg, node
        elif isinstance(node, (ast.FunctionDef, ast.ClassDef)):
            yield node.name, node
        elif isinstance(node, ast.alias):
            yield node.name, node


class Language(unittest.TestCase):
    def test_folder_has_modules_only(self):
        for path in PACKAGE.rglob("*"):
            if "__pycache__" not in path.parts:
                self.assertTrue(path.is_dir() or path.suffix == ".py", path)
        self.assertTrue((PACKAGE / "__init__.py").exists())

    def test_sizes_and_characters(self):
        for path, tree in trees().items():
            lines = path.read_text().split("\n")
            self.assertLess(len(lines) - 1, 400, path)
            for line in lines:
                self.assertLessEqual(len(line), 120, (path, line))
                self.assertTrue(all(" " <= sign <= "~" for sign in line), (path, line))
            for node in ast.walk(tree):
                if isinstance(node, ast.FunctionDef):
                    self.assertLessEqual(node.end_lineno - node.lineno, 39, (path, node.name))

    def test_imports(self):
        defined = {f"learnways.{path.stem}": {node.name for node in tree.body if hasattr(node, "name")}
                   | {target.id for node in tree.body if isinstance(node, ast.Assign) for target in node.targets}
                   for path, tree in trees().items()}
        below = {}
        for path, tree in trees().items():
            imports = [node for node in ast.walk(tree) if isinstance(node, ast.ImportFrom)]
            self.assertEqual(imports, [node for node in tree.body if isinstance(node, ast.ImportFrom)])
            ours = [node for node in imports if node.module not in LIBRARY]
            below[f"learnways.{path.stem}"] = {node.module for node in ours}
            for node in ours:
                for alias in node.names:
                    self.assertIsNone(alias.asname)
                    self.assertIn(alias.name, defined[node.module], path)
        while below:
            free = [name for name, needs in below.items() if not needs & set(below)]
            self.assertTrue(free, f"files import from each other: {below}")
            for name in free:
                del below[name]

    def test_names(self):
        for path, tree in trees().items():
            for name, node in named(tree):
                where = (path, getattr(node, "lineno", 0), name)
                self.assertNotIn(name, BARRED_NAMES, where)
                if name.startswith("__"):
                    self.assertIn(name, DUNDERS, where)
                elif name != "_" and hasattr(builtins, name) and not isinstance(node, ast.Attribute):
                    self.assertIn(name, BUILTINS, where)
                    self.assertIsInstance(node, ast.Name, where)
                    self.assertIsInstance(node.ctx, ast.Load, where)

    def test_statements_and_values(self):
        for path, tree in trees().items():
            for node in ast.walk(tree):
                where = (path, getattr(node, "lineno", 0))
                self.assertNotIsInstance(node, BARRED_NODES, where)
                if isinstance(node, ast.Constant):
                    self.assertNotIsInstance(node.value, (float, complex), where)
                    if isinstance(node.value, str):
                        self.assertNotIn("%", node.value, where)
                if isinstance(node, ast.Compare):
                    for sign, other in zip(node.ops, node.comparators):
                        if isinstance(sign, (ast.Is, ast.IsNot)):
                            self.assertIn(getattr(other, "value", 0), (None, True, False), where)

    def test_calls(self):
        own = {node.name for tree in trees().values() for node in ast.walk(tree)
               if isinstance(node, (ast.FunctionDef, ast.ClassDef))}
        for path, tree in trees().items():
            for node in ast.walk(tree):
                if not isinstance(node, ast.Call):
                    continue
                where = (path, node.lineno)
                if isinstance(node.func, ast.Attribute):
                    self.assertIn(node.func.attr, VALUE_METHODS | own | {"__init__"}, where)
                elif node.func.id in ("sorted", "min", "max"):
                    # Courses have an order, so what is sorted must plainly be numbers.
                    for part in node.args:
                        number = part.elt if isinstance(part, ast.ListComp) else part
                        self.assertIn(number.func.id, ("int", "len"), where)

    def test_generators(self):
        own = [node for tree in trees().values() for node in ast.walk(tree) if isinstance(node, ast.FunctionDef)]
        grown = [node.name for node in own
                 if any(isinstance(part, (ast.Yield, ast.YieldFrom)) for part in ast.walk(node))]
        self.assertEqual(grown, ["states"])
        self.assertEqual([node.name for node in own].count("states"), 1)
        for path, tree in trees().items():
            at_once = [node.iter for node in ast.walk(tree) if isinstance(node, (ast.For, ast.comprehension))]
            at_once += [node.args[0] for node in ast.walk(tree)
                        if isinstance(node, ast.Call) and getattr(node.func, "id", "") in ("list", "tuple")]
            for node in ast.walk(tree):
                if isinstance(node, ast.Call) and getattr(node.func, "id", "") in grown:
                    self.assertIn(node, at_once, (path, node.lineno))

    def test_what_is_done_in_any_case(self):
        for path, tree in trees().items():
            for node in ast.walk(tree):
                if isinstance(node, ast.Try):
                    self.assertEqual(node.handlers, [], (path, node.lineno))
                    for row in node.finalbody:
                        self.assertIsInstance(row, ast.Assign, (path, row.lineno))
                        self.assertIsInstance(row.value, ast.Name, (path, row.lineno))

    def test_methods_of_classes(self):
        for path, tree in trees().items():
            for node in ast.walk(tree):
                if isinstance(node, ast.ClassDef):
                    inner = [part.name for part in node.body if isinstance(part, ast.FunctionDef)]
                    self.assertEqual(len(inner), len(set(inner)), (path, node.name))
                    if "__getitem__" in inner:
                        self.assertIn("__iter__", inner)


if __name__ == "__main__":
    unittest.main()
