"""No clock, chance or files: the package draws on itself and on a small part of the language alone."""

import ast
import builtins
import pathlib
import re
import unittest

PACKAGE = pathlib.Path(__file__).resolve().parent.parent / "mixpots"
ALLOWED = set(
    "len range enumerate zip min max sum abs sorted reversed int str bool list tuple dict set frozenset "
    "isinstance ord repr any all divmod Exception ValueError TypeError KeyError IndexError LookupError "
    "ZeroDivisionError ArithmeticError OverflowError RuntimeError NotImplementedError".split()
)
METHODS = set(
    "append clear copy count endswith extend find get index insert isalnum isalpha isdigit islower isspace isupper "
    "items join keys ljust lower lstrip partition pop remove replace reverse rfind rjust rpartition rsplit rstrip "
    "setdefault split splitlines startswith strip update upper values zfill bit_length".split()
)
WORDS = re.compile(
    r"\b(type|typing|typing_extensions|enum|Enum|IntEnum|StrEnum|Flag|IntFlag|Generic|Protocol|ABC|ABCMeta|namedtuple"
    r"|NamedTuple|TypedDict|TYPE_CHECKING|abstractmethod)\b|dataclass|overload|contextmanager"
)
OUTSIDE_THE_LANGUAGE = (
    ast.With, ast.Match, ast.Delete, ast.Assert, ast.Yield, ast.YieldFrom, ast.Await, ast.AsyncFunctionDef, ast.Div,
    ast.SetComp, ast.DictComp, ast.GeneratorExp, ast.NamedExpr, ast.Starred, ast.Global, ast.Nonlocal,
)


def paths():
    return sorted(PACKAGE.rglob("*.py"))


def trees():
    return [(path.name, ast.parse(path.read_text("utf-8"))) for path in paths()]


class Sources(unittest.TestCase):
    def test_the_modules_are_there(self):
        names = [name for name, tree in trees()]
        for name in ("__init__.py", "apart.py", "errors.py", "notes.py", "plans.py", "reading.py"):
            self.assertIn(name, names)

    def test_only_the_package_itself_is_imported(self):
        for name, tree in trees():
            for node in ast.walk(tree):
                self.assertNotIsInstance(node, ast.Import, name)
                if isinstance(node, ast.ImportFrom):
                    self.assertEqual((node.level, node.module.split(".")[0]), (0, "mixpots"), name)

    def test_of_pythons_own_names_only_harmless_ones_are_used(self):
        for name, tree in trees():
            used = {node.id for node in ast.walk(tree) if isinstance(node, ast.Name)}
            self.assertEqual({each for each in used if each in dir(builtins)} - ALLOWED, set(), name)
            self.assertEqual({each for each in used if each.startswith("_")}, set(), name)

    def test_of_methods_only_the_listed_ones_are_used(self):
        for name, tree in trees():
            used = {node.attr for node in ast.walk(tree) if isinstance(node, ast.Attribute)}
            self.assertEqual(used - METHODS, set(), name)

    def test_no_name_of_the_own_code_hides_one_of_pythons_own(self):
        for name, tree in trees():
            for node in ast.walk(tree):
                if isinstance(node, (ast.FunctionDef, ast.ClassDef)):
                    self.assertNotIn(node.name, dir(builtins), name)
                if isinstance(node, ast.arg):
                    self.assertNotIn(node.arg, dir(builtins), name)
                if isinstance(node, ast.Name) and isinstance(node.ctx, ast.Store):
                    self.assertNotIn(node.id, dir(builtins), name)

    def test_nothing_outside_the_part_of_the_language_is_used(self):
        for name, tree in trees():
            for node in ast.walk(tree):
                self.assertNotIsInstance(node, OUTSIDE_THE_LANGUAGE, name)
                if isinstance(node, ast.Assign):
                    self.assertEqual([len(node.targets), isinstance(node.targets[0], ast.Tuple)], [1, False], name)
                if isinstance(node, ast.ListComp):
                    self.assertEqual(len(node.generators), 1, name)
                    self.assertLessEqual(len(node.generators[0].ifs), 1, name)
                if isinstance(node, (ast.For, ast.While)):
                    self.assertEqual(node.orelse, [], name)

    def test_sizes_signs_and_words(self):
        for path in paths():
            text = path.read_text("utf-8")
            self.assertRegex(text, r"\A[\n -~]*\Z")
            self.assertIsNone(WORDS.search(text), path.name)
            self.assertLessEqual(len(text.splitlines()), 400)
            self.assertLessEqual(max(len(line) for line in text.splitlines()), 120)
            for node in ast.walk(ast.parse(text)):
                if isinstance(node, ast.FunctionDef):
                    self.assertLessEqual(node.end_lineno - node.lineno + 1, 40)

    def test_nothing_but_sources_lies_in_the_package(self):
        others = [path for path in PACKAGE.rglob("*") if path.suffix != ".py" and "__pycache__" not in path.parts]
        self.assertEqual(others, [])


if __name__ == "__main__":
    unittest.main()
