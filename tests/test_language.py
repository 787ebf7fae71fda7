"""Tests that the files of the package keep to the rules of the language that are easily counted."""

import ast
import pathlib
import unittest

PACKAGE = pathlib.Path(__file__).resolve().parent.parent / "floorwalks"
LIBRARY = {"math": {"gcd", "lcm", "isqrt"}, "heapq": {"heappush", "heappop"}, "itertools": {"product"}}
BUILTINS = set("len range enumerate zip min max sum abs sorted reversed int str bool list tuple dict set isinstance ord "
               "repr any all divmod super iter ValueError KeyError".split())
BARRED = (ast.Global, ast.AsyncFunctionDef, ast.Await, ast.GeneratorExp, ast.Div, ast.Import)


def files():
    return sorted(path for path in PACKAGE.rglob("*") if path.is_file() and "__pycache__" not in path.parts)


class LanguageTests(unittest.TestCase):
    def test_only_files_of_the_program(self):
        self.assertIn(PACKAGE / "__init__.py", files())
        for path in files():
            self.assertEqual(path.suffix, ".py")
            self.assertFalse(path.name.startswith("test_") or path.stem in ("test", "tests", "testing"), path)

    def test_sizes_and_characters(self):
        for path in files():
            text = path.read_text(encoding="ascii")
            lines = text.split("\n")
            self.assertTrue(text.endswith("\n") and "\r" not in text and "\t" not in text, path)
            self.assertLessEqual(len(lines), 399, path)
            self.assertLessEqual(max(len(line) for line in lines), 120, path)
            for node in ast.walk(ast.parse(text)):
                if isinstance(node, ast.FunctionDef):
                    self.assertLessEqual(node.end_lineno - node.lineno + 1, 40, (path, node.name))

    def test_imports(self):
        for path in files():
            for node in ast.walk(ast.parse(path.read_text())):
                if isinstance(node, ast.ImportFrom):
                    names = {item.name for item in node.names}
                    inner = node.module.startswith("floorwalks.") and node.level == 0
                    self.assertTrue(inner or names <= LIBRARY.get(node.module, set()), (path, node.module))
                    self.assertTrue(all(item.asname is None for item in node.names), path)

    def test_statements_and_names(self):
        for path in files():
            tree = ast.parse(path.read_text())
            known = {node.name for node in ast.walk(tree) if isinstance(node, (ast.FunctionDef, ast.ClassDef))}
            known |= {item.name for node in ast.walk(tree) if isinstance(node, ast.ImportFrom) for item in node.names}
            known |= {node.id for node in ast.walk(tree) if isinstance(node, ast.Name) and isinstance(node.ctx, ast.Store)}
            known |= {node.arg for node in ast.walk(tree) if isinstance(node, ast.arg)}
            self.assertFalse(known & set(dir(__builtins__) if not isinstance(__builtins__, dict) else __builtins__), path)
            for node in ast.walk(tree):
                self.assertNotIsInstance(node, BARRED, path)
                if isinstance(node, ast.Name):
                    self.assertIn(node.id, known | BUILTINS, path)
                if isinstance(node, ast.Constant):
                    self.assertNotIsInstance(node.value, (float, complex), path)
