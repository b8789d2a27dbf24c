"""The package uses no clock, chance or files: it draws on its own files alone."""

import ast
import pathlib
import unittest

PACKAGE = pathlib.Path(__file__).resolve().parent.parent / "atonce"
REACHING_OUT = ("open", "input", "print", "exec", "eval", "compile", "hash", "id")


def nodes():
    for path in sorted(PACKAGE.glob("*.py")):
        for node in ast.walk(ast.parse(path.read_text(encoding="utf-8"))):
            yield path.name, node


class PackageTest(unittest.TestCase):
    def test_only_own_files_are_imported(self):
        for name, node in nodes():
            self.assertNotIsInstance(node, ast.Import, name)
            if isinstance(node, ast.ImportFrom):
                self.assertEqual(node.level, 0, name)
                self.assertEqual(node.module.split(".")[0], "atonce", name)

    def test_nothing_reaches_out(self):
        for name, node in nodes():
            if isinstance(node, ast.Name):
                self.assertNotIn(node.id, REACHING_OUT, name)
                self.assertFalse(node.id.startswith("__"), name)

    def test_the_package_holds_python_files_alone(self):
        others = [path.name for path in PACKAGE.iterdir() if path.suffix != ".py" and path.name != "__pycache__"]
        self.assertEqual(others, [])
