"""The rules of LANGUAGE.md that can be told from the text of a file alone, and the interface's names."""

import ast
import builtins
import importlib
import inspect
import pathlib
import re
import unittest

from signsteps.desk import Desk
from signsteps.kinds import Kind

PACKAGE = pathlib.Path(__file__).resolve().parent.parent / "signsteps"
BUILTINS = set("""len range enumerate zip min max sum abs sorted reversed int str bool list tuple dict set isinstance
    ord repr any all divmod Exception ValueError TypeError KeyError IndexError LookupError ZeroDivisionError
    ArithmeticError OverflowError RuntimeError NotImplementedError AttributeError StopIteration
    NotImplemented""".split())
METHODS = set("""append clear copy count endswith extend find get index insert isalnum isalpha isdigit islower isspace
    isupper items join keys ljust lower lstrip partition pop remove replace reverse rfind rjust rpartition rsplit
    rstrip setdefault split splitlines startswith strip update upper values zfill bit_length add discard sort
    isascii isdecimal removeprefix removesuffix rindex __init__""".split())
BARRED_WORDS = re.compile(r"\b(type|typing|typing_extensions|enum|Enum|IntEnum|StrEnum|Flag|IntFlag|Generic|Protocol"
                          r"|ABC|ABCMeta|namedtuple|NamedTuple|TypedDict|TYPE_CHECKING|abstractmethod)\b"
                          r"|dataclass|overload|contextmanager")
BARRED_NAMES = {"register", "mro", "elements", "open", "input", "version_info", "with_traceback", "add_note"}
BARRED_NODES = (ast.Global, ast.AsyncFunctionDef, ast.AsyncFor, ast.AsyncWith, ast.Await, ast.Div, ast.MatMult,
                ast.Import)


def files():
    return sorted(PACKAGE.glob("*.py"))


def trees():
    return [(path, ast.parse(path.read_text())) for path in files()]


def bound_names(tree):
    """Names that a file's functions and classes give a meaning: parameters, variables, functions, classes."""
    for node in ast.walk(tree):
        if isinstance(node, ast.Name) and isinstance(node.ctx, ast.Store):
            yield node.id
        elif isinstance(node, ast.arg):
            yield node.arg
        elif isinstance(node, (ast.FunctionDef, ast.ClassDef)):
            yield node.name


def imported(tree):
    return [name.asname or name.name for node in tree.body if isinstance(node, ast.ImportFrom) for name in node.names]


def defined(tree):
    """What stands at module level: functions, classes and values."""
    found = [node.name for node in tree.body if isinstance(node, (ast.FunctionDef, ast.ClassDef))]
    return found + [target.id for node in tree.body if isinstance(node, ast.Assign) for target in node.targets]


class LanguageTest(unittest.TestCase):
    def test_files(self):
        names = [path.name for path in PACKAGE.iterdir() if path.name != "__pycache__"]
        self.assertEqual(sorted(names), [path.name for path in files()])
        self.assertIn("__init__.py", names)
        for name in names:
            self.assertRegex(name, r"\A(__init__|__main__|[a-z][a-z0-9_]*)\.py\Z")

    def test_signs_lines_and_words(self):
        for path in files():
            text = path.read_text()
            self.assertEqual(set(re.findall(r"[^ -~\n]", text)), set(), path.name)
            self.assertLessEqual(text.count("\n"), 400, path.name)
            self.assertLessEqual(max(len(line) for line in text.split("\n")), 120, path.name)
            self.assertIsNone(BARRED_WORDS.search(text), path.name)

    def test_short_functions(self):
        for path, tree in trees():
            for node in ast.walk(tree):
                if isinstance(node, ast.FunctionDef):
                    self.assertLessEqual(node.end_lineno - node.lineno + 1, 40, (path.name, node.name))
                    self.assertEqual(node.args.posonlyargs, [], (path.name, node.name))

    def test_module_level(self):
        for path, tree in trees():
            body = tree.body[1:] if ast.get_docstring(tree) else tree.body
            ranks = [0 if isinstance(node, ast.ImportFrom) else 1 for node in body]
            self.assertEqual(ranks, sorted(ranks), path.name)
            for node in body:
                self.assertIsInstance(node, (ast.ImportFrom, ast.FunctionDef, ast.ClassDef, ast.Assign), path.name)
            names = imported(tree) + defined(tree)
            self.assertEqual(len(names), len(set(names)), path.name)

    def test_imports(self):
        modules = {f"signsteps.{path.stem}": tree for path, tree in trees()}
        reached = {}
        for name, tree in modules.items():
            reached[name] = [node.module for node in ast.walk(tree) if isinstance(node, ast.ImportFrom)]
            for node in ast.walk(tree):
                if isinstance(node, ast.ImportFrom):
                    self.assertEqual(node.level, 0, name)
                    self.assertIn(node.module, modules, name)
                    for alias in node.names:
                        self.assertIn(alias.name, defined(modules[node.module]), name)
        for _ in modules:
            # A file from which nothing more leads on can be in no ring.
            reached = {name: [other for other in more if reached[other]] for name, more in reached.items()}
        self.assertEqual([name for name, more in reached.items() if more], [])

    def test_statements_and_values(self):
        for path, tree in trees():
            for node in ast.walk(tree):
                self.assertNotIsInstance(node, BARRED_NODES, path.name)
                if isinstance(node, ast.Constant):
                    self.assertNotIsInstance(node.value, (float, complex), path.name)
                    self.assertFalse(isinstance(node.value, str) and "%" in node.value, path.name)
                if isinstance(node, ast.BinOp) and isinstance(node.op, ast.Pow):
                    self.assertIsInstance(node.right, ast.Constant, path.name)
                if isinstance(node, ast.Compare) and isinstance(node.ops[0], (ast.Is, ast.IsNot)):
                    self.assertIsInstance(node.comparators[0], ast.Constant, path.name)

    def test_names(self):
        for path, tree in trees():
            for name in bound_names(tree):
                if name == "__init__":
                    continue
                self.assertRegex(name, r"\A[A-Za-z][A-Za-z0-9_]*\Z", path.name)
                self.assertNotIn(name, BARRED_NAMES, path.name)
                self.assertFalse(hasattr(builtins, name), (path.name, name))
                self.assertNotIn(name, imported(tree), path.name)

    def test_builtins_and_methods(self):
        own = {node.name for path, tree in trees() for node in ast.walk(tree) if isinstance(node, ast.FunctionDef)}
        for path, tree in trees():
            for node in ast.walk(tree):
                if isinstance(node, ast.Name) and hasattr(builtins, node.id):
                    self.assertIn(node.id, BUILTINS, path.name)
                if isinstance(node, ast.Call) and isinstance(node.func, ast.Attribute):
                    self.assertIn(node.func.attr, METHODS | own, path.name)


INTERFACE = {
    "sums": {"sum_of": "kind terms", "plus": "one other", "minus": "one other", "scaled": "one fraction",
             "times": "kind one other", "is_sum": "kind terms"},
    "turning": {"grades": "one", "part": "one grade", "back": "one", "flipped": "one"},
    "meeting": {"outer": "kind one other", "inner": "kind one other", "number_of": "one", "dot": "kind one other"},
    "partners": {"partner": "kind one", "quotient": "kind one other"},
    "mirrors": {"mirrored": "kind vector other", "led": "kind table vector", "mirror_table": "kind vector",
                "put_behind": "kind one other", "versor_table": "kind versor", "keeps_measure": "kind table",
                "versor_of": "kind vectors", "alike": "kind one other"},
    "apart": {"taken_apart": "kind table", "mirrors_of": "kind one"},
    "flats": {"row_at": "kind one product", "flat_parts": "kind one"},
    "owns": {"products_of": "kind", "own_table": "kind one", "sum_at": "kind rows", "beside_all": "kind",
             "halves": "kind", "folded": "kind one which"},
    "evens": {"even_kind": "kind", "into_even": "kind one", "out_of_even": "kind one"},
    "boards": {"board_fault": "kind boards", "board_of": "kind boards one", "blind": "kind boards",
               "sum_from": "kind boards board", "size_of": "kind", "boards_for": "kind"},
    "crossings": {"crossed": "kind step", "fours": "kind steps", "cross": "kind step one",
                  "cross_four": "kind steps one"},
    "sayings": {"worth": "kind saying", "parts_of": "saying", "kept_saying": "one"},
    "papers": {"stepped": "kind saying step", "ends": "kind saying paper", "leads": "kind one paper other"},
    "finder": {"to_kept": "kind saying", "between": "kind one other"},
    "texts": {"sum_text": "one", "saying_text": "saying", "read_sum": "kind text", "read_saying": "text"},
}


class InterfaceTest(unittest.TestCase):
    def test_names_and_arguments(self):
        for module, functions in INTERFACE.items():
            found = importlib.import_module(f"signsteps.{module}")
            for name, arguments in functions.items():
                parameters = inspect.signature(getattr(found, name)).parameters
                self.assertEqual(" ".join(parameters), arguments, (module, name))

    def test_kind(self):
        self.assertEqual(list(inspect.signature(Kind).parameters), ["squares"])
        self.assertEqual(set(vars(Kind([1, 0]))), {"count", "squares"})

    def test_desk(self):
        self.assertEqual(list(inspect.signature(Desk).parameters), [])
        self.assertEqual(list(inspect.signature(vars(Desk)["tell"]).parameters), ["self", "line"])


if __name__ == "__main__":
    unittest.main()
