"""The package's form: nothing in it can reach a clock, chance or files [2]."""

import ast
import builtins
import pathlib
import re
import unittest

PACKAGE = pathlib.Path(__file__).resolve().parent.parent / "pursewise"

PYTHONS_OWN = set(
    "len range enumerate zip min max sum abs sorted reversed int str bool list tuple dict set frozenset"
    " isinstance ord repr any all divmod Exception ValueError TypeError KeyError IndexError LookupError"
    " ZeroDivisionError ArithmeticError OverflowError RuntimeError NotImplementedError AttributeError"
    " StopIteration".split()
)


def package_files():
    return sorted(path for path in PACKAGE.rglob("*") if path.is_file() and path.parent.name != "__pycache__")


def nodes_of(path):
    return list(ast.walk(ast.parse(path.read_text(encoding="utf-8"))))


class Package(unittest.TestCase):
    def test_only_plain_files(self):
        names = [path.relative_to(PACKAGE).as_posix() for path in package_files()]
        self.assertIn("__init__.py", names)
        self.assertEqual([name for name in names if not re.fullmatch(r"[a-z0-9_/]+\.py", name)], [])

    def test_only_its_own_modules_are_imported(self):
        for path in package_files():
            for node in nodes_of(path):
                with self.subTest(file=path.name):
                    self.assertNotIsInstance(node, ast.Import)
                    if isinstance(node, ast.ImportFrom):
                        self.assertEqual(node.level, 0)
                        self.assertTrue(node.module.startswith("pursewise."), node.module)

    def test_only_harmless_names_of_pythons_own(self):
        for path in package_files():
            used = {node.id for node in nodes_of(path) if isinstance(node, ast.Name)}
            with self.subTest(file=path.name):
                self.assertEqual(sorted((used & set(dir(builtins))) - PYTHONS_OWN), [])

    def test_whole_numbers_alone(self):
        for path in package_files():
            for node in nodes_of(path):
                with self.subTest(file=path.name):
                    self.assertNotIsInstance(node, ast.Div)
                    if isinstance(node, ast.Constant):
                        self.assertNotIsInstance(node.value, (float, complex))

    def test_signs_and_sizes(self):
        for path in package_files():
            with self.subTest(file=path.name):
                text = path.read_bytes().decode("utf-8")
                self.assertEqual(re.findall(r"[^ -~\n]", text), [])
                lines = text.split("\n")
                self.assertLessEqual(len(lines), 401)
                self.assertLessEqual(max(map(len, lines)), 120)
                for node in nodes_of(path):
                    if isinstance(node, ast.FunctionDef):
                        self.assertLessEqual(node.end_lineno - node.lineno + 1, 40, node.name)


if __name__ == "__main__":
    unittest.main()
