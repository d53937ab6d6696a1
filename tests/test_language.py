"""The package keeps to the plainest rules of LANGUAGE.md: sizes, characters, imports, no floats."""

import ast
import pathlib
import unittest

PACKAGE = pathlib.Path(__file__).resolve().parent.parent / "keptform"
LIBRARY = {"math": ("gcd", "lcm", "isqrt"), "heapq": ("heappush", "heappop")}


def files():
    return sorted(path for path in PACKAGE.rglob("*") if path.is_file() and "__pycache__" not in path.parts)


class LanguageTest(unittest.TestCase):
    def each(self):
        for path in files():
            with self.subTest(file=path.name):
                yield path, path.read_text(encoding="utf-8")

    def test_only_python_files(self):
        self.assertTrue((PACKAGE / "__init__.py").is_file())
        for path in files():
            self.assertEqual(path.suffix, ".py")

    def test_sizes_and_characters(self):
        for path, text in self.each():
            lines = text.split("\n")
            self.assertLessEqual(len(lines), 399)
            self.assertLessEqual(max(map(len, lines)), 120)
            self.assertTrue(all(sign == "\n" or " " <= sign <= "~" for sign in text))

    def test_sizes_of_functions(self):
        for path, text in self.each():
            for node in ast.walk(ast.parse(text)):
                if isinstance(node, ast.FunctionDef):
                    self.assertLessEqual(node.end_lineno - node.lineno + 1, 40, node.name)
                    self.assertTrue(node.name.startswith("__") or ast.get_docstring(node), node.name)

    def test_imports(self):
        for path, text in self.each():
            for node in ast.walk(ast.parse(text)):
                self.assertNotIsInstance(node, ast.Import)
                if isinstance(node, ast.ImportFrom):
                    self.assertEqual(node.level, 0)
                    names = [name.name for name in node.names]
                    if node.module in LIBRARY:
                        self.assertLessEqual(set(names), set(LIBRARY[node.module]))
                    else:
                        self.assertTrue(node.module.startswith("keptform."))

    def test_no_floats(self):
        for path, text in self.each():
            for node in ast.walk(ast.parse(text)):
                self.assertNotIsInstance(node, ast.Div)
                if isinstance(node, ast.Constant):
                    self.assertNotIsInstance(node.value, (float, complex))
                    self.assertFalse(isinstance(node.value, str) and "%" in node.value)


if __name__ == "__main__":
    unittest.main()
