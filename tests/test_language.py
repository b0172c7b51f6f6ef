"""Those rules of LANGUAGE.md that can be read off a file at once: files, sizes, characters, imports."""

import ast
import pathlib
import re
import unittest

PACKAGE = pathlib.Path(__file__).resolve().parent.parent / "topups"
LIBRARY = ("heapq", "math", "itertools", "collections")
AT_MODULE_LEVEL = (ast.ImportFrom, ast.FunctionDef, ast.ClassDef, ast.Assign)


def files():
    return sorted(path for path in PACKAGE.rglob("*") if path.is_file() and "__pycache__" not in path.parts)


def trees():
    return [(path, ast.parse(path.read_text(encoding="utf-8"))) for path in files()]


def nodes(*kinds):
    return [(path, node) for path, tree in trees() for node in ast.walk(tree) if isinstance(node, kinds)]


class LanguageTest(unittest.TestCase):
    def test_files(self):
        self.assertIn(PACKAGE / "__init__.py", files())
        for path in files():
            self.assertRegex(path.name, re.compile(r"^(__init__|__main__|[a-z][a-z0-9_]*)\.py$"))

    def test_sizes_and_characters(self):
        for path in files():
            text = path.read_text(encoding="utf-8")
            self.assertLessEqual(len(text.splitlines()), 399, path)
            self.assertLessEqual(max(len(line) for line in text.splitlines()), 120, path)
            self.assertRegex(text, re.compile(r"\A[ -~\n]*\Z"), path)

    def test_functions_are_short(self):
        for path, node in nodes(ast.FunctionDef):
            self.assertLessEqual(node.end_lineno - node.lineno + 1, 40, (path, node.name))

    def test_module_level(self):
        for path, tree in trees():
            for at, node in enumerate(tree.body):
                docstring = at == 0 and isinstance(node, ast.Expr) and isinstance(node.value, ast.Constant)
                self.assertTrue(docstring or isinstance(node, AT_MODULE_LEVEL), (path, node.lineno))

    def test_imports_name_the_file_that_defines(self):
        defined = {
            path.stem: [node.name for node in tree.body if isinstance(node, (ast.FunctionDef, ast.ClassDef))]
            + [node.targets[0].id for node in tree.body if isinstance(node, ast.Assign)]
            for path, tree in trees()
        }
        self.assertEqual(nodes(ast.Import), [])
        for path, node in nodes(ast.ImportFrom):
            self.assertEqual(node.level, 0, path)
            if node.module not in LIBRARY:
                folder, name = node.module.split(".")
                self.assertEqual(folder, "topups")
                self.assertLessEqual({alias.name for alias in node.names}, set(defined[name]), path)

    def test_no_floats_and_no_percent_signs_in_strings(self):
        self.assertEqual([(path, node.lineno) for path, node in nodes(ast.BinOp) if isinstance(node.op, ast.Div)], [])
        for path, node in nodes(ast.Constant):
            self.assertNotIsInstance(node.value, (float, complex), path)
            if isinstance(node.value, str):
                self.assertNotIn("%", node.value, path)
