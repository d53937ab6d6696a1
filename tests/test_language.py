"""The package keeps to the plainest rules of LANGUAGE.md: sizes, characters, imports, no floats."""

import ast
import pathlib
import unittest

PACKAGE = pathlib.Path(__file__).resolve().parent.parent / "keptform"
LIBRARY = {"math": ("gcd", "lcm", "isqrt"), "heapq": ("heappush", "heappop"), "itertools": ("combinations",)}


def files():
    return sorted(path for path in PACKAGE.rglob("*") if path.is_file() and "__pycache__" not in path.parts)


class LanguageTest(unittest.TestCase):
    def each(self):
        return [(path.name, path.read_text(encoding="utf-8")) for path in files()]

    def test_only_python_files(self):
        self.assertTrue((PACKAGE / "__init__.py").is_file())
        for path in files():
            self.assertEqual(path.suffix, ".py")

    def test_sizes_and_characters(self):
        for file, text in self.each():
            lines = text.split("\n")
            self.assertLessEqual(len(lines), 399, file)
            self.assertLessEqual(max(map(len, lines)), 120, file)
            self.assertTrue(all(sign == "\n" or " " <= sign <= "~" for sign in text), file)

    def test_sizes_of_functions(self):
        for file, text in self.each():
            for node in ast.walk(ast.parse(text)):
                if isinstance(node, ast.FunctionDef):
                    self.assertLessEqual(node.end_lineno - node.lineno + 1, 40, (file, node.name))
                    self.assertTrue(node.name.startswith("__") or ast.get_docstring(node), (file, node.name))

    def test_imports(self):
        for file, text in self.each():
            for node in ast.walk(ast.parse(text)):
                self.assertNotIsInstance(node, ast.Import, file)
                if isinstance(node, ast.ImportFrom):
                    self.assertEqual(node.level, 0, file)
                    names = [name.name for name in node.names]
                    if node.module in LIBRARY:
                        self.assertLessEqual(set(names), set(LIBRARY[node.module]), file)
                    else:
                        self.assertTrue(node.module.startswith("keptform."), file)

    def test_no_local_name_is_that_of_a_function_of_its_file(self):
        for file, text in self.each():
            tree = ast.parse(text)
            taken = {node.name for node in tree.body if isinstance(node, (ast.FunctionDef, ast.ClassDef))}
            taken.update(name.name for node in tree.body if isinstance(node, ast.ImportFrom) for name in node.names)
            for node in ast.walk(tree):
                if isinstance(node, ast.arg):
                    self.assertNotIn(node.arg, taken, file)
                if isinstance(node, ast.Name) and isinstance(node.ctx, ast.Store):
                    self.assertNotIn(node.id, taken, file)

    def test_no_floats(self):
        for file, text in self.each():
            for node in ast.walk(ast.parse(text)):
                self.assertNotIsInstance(node, ast.Div, file)
                if isinstance(node, ast.Constant):
                    self.assertNotIsInstance(node.value, (float, complex), file)
                    self.assertFalse(isinstance(node.value, str) and "%" in node.value, file)


if __name__ == "__main__":
    unittest.main()
