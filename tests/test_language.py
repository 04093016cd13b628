"""The package keeps to the rules of LANGUAGE.md that can be seen in the code file by file."""

import ast
import builtins
import pathlib
import re
import unittest

FOLDER = pathlib.Path(__file__).resolve().parent.parent / "quarterfold"
FILES = sorted(FOLDER.glob("*.py"))

BUILTINS = set("""len range enumerate zip min max sum abs sorted reversed int str bool bytes list tuple dict set
frozenset isinstance ord repr any all divmod Exception ValueError TypeError KeyError IndexError LookupError
ZeroDivisionError ArithmeticError OverflowError RuntimeError NotImplementedError AttributeError
StopIteration""".split())
METHODS = set("""append clear copy count endswith extend find get index insert isalnum isalpha isdigit islower isspace
isupper items join keys ljust lower lstrip partition pop remove replace reverse rfind rjust rpartition rsplit rstrip
setdefault split splitlines startswith strip update upper values zfill bit_length add discard sort""".split())
WORDS = """type typing typing_extensions enum Enum IntEnum StrEnum Flag IntFlag Generic Protocol ABC ABCMeta namedtuple
NamedTuple TypedDict TYPE_CHECKING abstractmethod""".split()
BARRED = set("""register mro elements open input version_info with_traceback add_note attrgetter breakpoint builtins
compile copyright credits delattr dir eval exec exit gc getattr globals hasattr help id importlib license locals
methodcaller os quit setattr super type vars sys __name__""".split())
LAZY = set("zip enumerate reversed range".split())
TAKERS = set("list tuple dict sorted sum any all enumerate zip bytes min max len reversed".split())
NODES = (ast.With, ast.Match, ast.Global, ast.Nonlocal, ast.Yield, ast.YieldFrom, ast.Await, ast.AsyncFunctionDef,
         ast.AsyncFor, ast.AsyncWith, ast.GeneratorExp, ast.NamedExpr, ast.Div, ast.MatMult, ast.Import)


def trees():
    return [(path, ast.parse(path.read_text("ascii"))) for path in FILES]


def bound_names(tree):
    """All names that the file binds anywhere, but for attributes."""
    names = []
    for node in ast.walk(tree):
        if isinstance(node, ast.Name) and not isinstance(node.ctx, ast.Load):
            names.append(node.id)
        elif isinstance(node, (ast.FunctionDef, ast.ClassDef)):
            names.append(node.name)
        elif isinstance(node, ast.arg):
            names.append(node.arg)
        elif isinstance(node, ast.ExceptHandler) and node.name:
            names.append(node.name)
        elif isinstance(node, ast.alias):
            names.append(node.asname or node.name)
    return names


def defined_at_top(tree):
    names = []
    for node in tree.body:
        if isinstance(node, (ast.FunctionDef, ast.ClassDef)):
            names.append(node.name)
        elif isinstance(node, ast.Assign):
            names.extend([target.id for target in node.targets])
    return names


def imported_names(tree):
    return [alias.asname or alias.name for node in ast.walk(tree) if isinstance(node, ast.ImportFrom)
            for alias in node.names]


class Language(unittest.TestCase):
    def test_files(self):
        self.assertIn("__init__.py", [path.name for path in FILES])
        others = [path.name for path in FOLDER.iterdir() if path not in FILES and path.name != "__pycache__"]
        self.assertEqual(others, [])
        for path in FILES:
            self.assertRegex(path.name, r"\A[a-z0-9_]+\.py\Z")

    def test_signs_lines_and_words(self):
        for path in FILES:
            text = path.read_text("utf-8")
            self.assertRegex(text, r"\A[ -~\n]*\Z", path.name)
            lines = text.split("\n")
            self.assertLessEqual(len(lines), 401, path.name)
            self.assertLessEqual(max([len(line) for line in lines]), 120, path.name)
            for word in WORDS:
                self.assertIsNone(re.search(rf"\b{word}\b", text), (path.name, word))
            self.assertIsNone(re.search("dataclass|overload|contextmanager", text), path.name)

    def test_statements_and_expressions(self):
        for path, tree in trees():
            for node in ast.walk(tree):
                where = (path.name, getattr(node, "lineno", 0))
                self.assertNotIsInstance(node, NODES, where)
                if isinstance(node, (ast.For, ast.While)):
                    self.assertEqual(node.orelse, [], where)
                if isinstance(node, ast.Constant):
                    self.assertIsInstance(node.value, (int, str, bytes, type(None)), where)
                if isinstance(node, ast.Constant) and isinstance(node.value, str):
                    self.assertNotIn("%", node.value, where)
                if isinstance(node, ast.BinOp) and isinstance(node.op, ast.Pow):
                    self.assertIsInstance(node.right, ast.Constant, where)
                if isinstance(node, ast.Compare) and {type(op) for op in node.ops} & {ast.Is, ast.IsNot}:
                    self.assertIsInstance(node.comparators[0], ast.Constant, where)
                if isinstance(node, ast.Call):
                    self.assertFalse([part for part in node.args if isinstance(part, ast.Starred)], where)
                    self.assertFalse([word for word in node.keywords if word.arg is None], where)

    def test_functions_and_classes(self):
        for path, tree in trees():
            for node in ast.walk(tree):
                if isinstance(node, (ast.FunctionDef, ast.Lambda)):
                    self.assertIsNone(node.args.vararg or node.args.kwarg, path.name)
                    self.assertEqual(node.args.posonlyargs, [], path.name)
                if isinstance(node, ast.FunctionDef):
                    self.assertEqual(node.decorator_list, [], node.name)
                    self.assertLessEqual(node.end_lineno - node.lineno + 1, 40, node.name)
                if isinstance(node, ast.ClassDef):
                    self.assertEqual(node.decorator_list, [], node.name)
                    self.assertLessEqual(len(node.bases), 1, node.name)
                    for part in node.body:
                        self.assertIsInstance(part, (ast.FunctionDef, ast.Expr), node.name)

    def test_module_level(self):
        for path, tree in trees():
            for node in tree.body:
                kinds = (ast.ImportFrom, ast.FunctionDef, ast.ClassDef, ast.Assign, ast.Expr)
                self.assertIsInstance(node, kinds, path.name)
            names = defined_at_top(tree) + imported_names(tree)
            self.assertEqual(len(set(names)), len(names), path.name)
            used = [node.id for node in ast.walk(tree) if isinstance(node, ast.Name)]
            for name in imported_names(tree):
                self.assertIn(name, used, path.name)

    def test_names(self):
        for path, tree in trees():
            imported = imported_names(tree)
            classes = [node.name for node in tree.body if isinstance(node, ast.ClassDef)]
            methods = [part.name for node in tree.body if isinstance(node, ast.ClassDef) for part in node.body
                       if isinstance(part, ast.FunctionDef)]
            for name in bound_names(tree):
                if name != "__init__":
                    self.assertRegex(name, r"\A[A-Za-z][A-Za-z0-9_]*\Z", path.name)
                self.assertNotIn(name, BARRED, path.name)
                self.assertTrue(name in methods or not hasattr(builtins, name), (path.name, name))
                self.assertLessEqual(bound_names(tree).count(name) if name in imported + classes else 1, 1,
                                     (path.name, name))

    def test_builtins_and_methods(self):
        own = {node.name for path, tree in trees() for node in ast.walk(tree) if isinstance(node, ast.FunctionDef)}
        for path, tree in trees():
            bound = set(bound_names(tree))
            for node in ast.walk(tree):
                if isinstance(node, ast.Name) and node.id not in bound:
                    self.assertIn(node.id, BUILTINS, (path.name, node.lineno))
                if isinstance(node, ast.Call) and isinstance(node.func, ast.Attribute):
                    self.assertIn(node.func.attr, METHODS | own, (path.name, node.lineno))

    def test_iterated_at_once(self):
        for path, tree in trees():
            on_the_spot = []
            for node in ast.walk(tree):
                if isinstance(node, (ast.For, ast.comprehension)):
                    on_the_spot.append(node.iter)
                if isinstance(node, ast.Call) and isinstance(node.func, ast.Name) and node.func.id in TAKERS:
                    on_the_spot.extend(node.args)
                if isinstance(node, ast.Compare):
                    on_the_spot.extend(node.comparators)
            for node in ast.walk(tree):
                if isinstance(node, ast.Call) and isinstance(node.func, ast.Name) and node.func.id in LAZY:
                    self.assertIn(node, on_the_spot, (path.name, node.lineno))

    def test_no_name_is_a_method_and_an_attribute(self):
        methods, attributes = set(), set()
        for path, tree in trees():
            for node in ast.walk(tree):
                if isinstance(node, ast.ClassDef):
                    methods |= {part.name for part in node.body if isinstance(part, ast.FunctionDef)}
                if isinstance(node, ast.Attribute) and isinstance(node.ctx, ast.Store):
                    attributes.add(node.attr)
        self.assertEqual(methods & attributes, set())
        # The names that point 26 gives to the methods of a board.
        self.assertEqual(attributes & {"shape", "many", "parts", "holes", "put", "take", "undo"}, set())
        for name in attributes:
            for kind in (str, int, list, tuple, dict, set, bytes):
                self.assertFalse(hasattr(kind, name), name)

    def test_imports(self):
        defined = {path.stem: defined_at_top(tree) for path, tree in trees()}
        reached = {path.stem: [] for path in FILES}
        for path, tree in trees():
            for node in ast.walk(tree):
                if isinstance(node, ast.ImportFrom):
                    self.assertIn(node, tree.body, path.name)
                    folder, stem = node.module.split(".")
                    self.assertEqual((folder, node.level), ("quarterfold", 0), path.name)
                    reached[path.stem].append(stem)
                    for alias in node.names:
                        self.assertIn(alias.name, defined[stem], path.name)
        self.assertEqual(in_a_ring(reached), [])


def in_a_ring(reached):
    """The files from which imports lead back to themselves."""
    found = []
    for start in reached:
        seen, ahead = set(), list(reached[start])
        while ahead:
            stem = ahead.pop()
            if stem not in seen:
                seen.add(stem)
                ahead.extend(reached[stem])
        if start in seen:
            found.append(start)
    return found


if __name__ == "__main__":
    unittest.main()
