"""No clock, chance or files: the package draws on itself and on a few harmless names alone."""

import ast
import builtins
import pathlib
import unittest

PACKAGE = pathlib.Path(__file__).resolve().parent.parent / "mixpots"
ALLOWED = set(
    "len range enumerate zip min max sum abs sorted reversed int str bool list tuple dict set frozenset "
    "isinstance ord repr any all divmod Exception ValueError TypeError KeyError IndexError LookupError "
    "ZeroDivisionError ArithmeticError OverflowError RuntimeError NotImplementedError".split()
)


def trees():
    return [(path.name, ast.parse(path.read_text("utf-8"))) for path in sorted(PACKAGE.rglob("*.py"))]


class Sources(unittest.TestCase):
    def test_the_modules_are_there(self):
        names = [name for name, tree in trees()]
        for name in ("__init__.py", "errors.py", "plans.py"):
            self.assertIn(name, names)

    def test_only_the_package_itself_is_imported(self):
        for name, tree in trees():
            for node in ast.walk(tree):
                self.assertNotIsInstance(node, ast.Import, name)
                if isinstance(node, ast.ImportFrom):
                    self.assertEqual((node.level, node.module.split(".")[0]), (0, "mixpots"), name)

    def test_of_pythons_own_names_only_harmless_ones_are_used(self):
        for name, tree in trees():
            used = {node.id for node in ast.walk(tree) if isinstance(node, ast.Name)}
            self.assertEqual({each for each in used if each in dir(builtins)} - ALLOWED, set(), name)
            self.assertEqual({each for each in used if each.startswith("_")}, set(), name)

    def test_nothing_is_kept_from_call_to_call(self):
        for name, tree in trees():
            for node in ast.walk(tree):
                self.assertNotIsInstance(node, (ast.Global, ast.Nonlocal), name)


if __name__ == "__main__":
    unittest.main()
