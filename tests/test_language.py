"""The rules of ../shared/LANGUAGE.md that are easily counted: sizes, signs, imports, names, and what may be called."""

import ast
import builtins
import pathlib
import unittest

PACKAGE = pathlib.Path(__file__).resolve().parent.parent / "ringorders"
FILES = sorted(PACKAGE.rglob("*.py"))
LIBRARY = ("heapq", "math", "itertools", "collections")
BUILTINS = set("""len range enumerate zip min max sum abs sorted reversed int str bool list tuple dict set isinstance ord
    repr any all divmod KeyError ValueError IndexError LookupError OverflowError""".split())
METHODS = set("""append clear copy count endswith extend find get index insert isalnum isalpha isdigit islower isspace
    isupper items join keys ljust lower lstrip partition pop remove replace reverse rfind rjust rpartition rsplit rstrip
    setdefault split splitlines startswith strip update upper values zfill""".split())
# With a class that has a likeness or a length of its own, a generator stands nowhere.
NOWHERE = (ast.GeneratorExp, ast.Yield, ast.Global, ast.Nonlocal, ast.AsyncFunctionDef, ast.Div, ast.Match, ast.With)
AT_THE_TOP = (ast.Import, ast.ImportFrom, ast.FunctionDef, ast.ClassDef, ast.Assign, ast.Expr)


class Language(unittest.TestCase):
    def test_lines_and_signs(self):
        for path in FILES:
            text = path.read_text(encoding="utf-8")
            self.assertTrue(all(sign == "\n" or " " <= sign <= "~" for sign in text), path)
            lines = text.split("\n")
            self.assertLessEqual(len(lines), 399, path)
            self.assertLessEqual(max(len(line) for line in lines), 120, path)

    def test_functions_have_at_most_forty_lines(self):
        for path in FILES:
            for node in ast.walk(ast.parse(path.read_text(encoding="utf-8"))):
                if isinstance(node, ast.FunctionDef):
                    self.assertLessEqual(node.end_lineno - node.lineno + 1, 40, (path, node.name))

    def test_what_stands_at_the_top_of_a_file(self):
        for path in FILES:
            for node in ast.parse(path.read_text(encoding="utf-8")).body:
                self.assertIsInstance(node, AT_THE_TOP, path)

    def test_what_stands_nowhere(self):
        for path in FILES:
            for node in ast.walk(ast.parse(path.read_text(encoding="utf-8"))):
                self.assertNotIsInstance(node, NOWHERE, path)
                if isinstance(node, ast.Constant):
                    self.assertNotIsInstance(node.value, (float, complex), path)
                    self.assertFalse(isinstance(node.value, str) and "%" in node.value, path)

    def test_builtins_and_methods(self):
        trees = {path: ast.parse(path.read_text(encoding="utf-8")) for path in FILES}
        classes = [node for tree in trees.values() for node in ast.walk(tree) if isinstance(node, ast.ClassDef)]
        own = {part.name for node in classes for part in node.body if isinstance(part, ast.FunctionDef)}
        for path, tree in trees.items():
            for node in ast.walk(tree):
                if isinstance(node, ast.Name) and hasattr(builtins, node.id):
                    self.assertIsInstance(node.ctx, ast.Load, (path, node.id))
                    self.assertIn(node.id, BUILTINS, path)
                if isinstance(node, ast.Call) and isinstance(node.func, ast.Attribute):
                    self.assertIn(node.func.attr, METHODS | own, path)

    def test_no_name_means_two_things(self):
        for path in FILES:
            tree = ast.parse(path.read_text(encoding="utf-8"))
            imported = [name.name for node in tree.body if isinstance(node, ast.ImportFrom) for name in node.names]
            defined = [node.name for node in tree.body if isinstance(node, (ast.FunctionDef, ast.ClassDef))]
            assigned = [target.id for node in tree.body if isinstance(node, ast.Assign) for target in node.targets]
            names = imported + defined + assigned
            self.assertEqual(len(names), len(set(names)), path)
            for node in ast.walk(tree):
                local = node.arg if isinstance(node, ast.arg) else None
                self.assertNotIn(local, names, path)
                self.assertFalse(local is not None and hasattr(builtins, local), (path, local))

    def test_imports(self):
        for path in FILES:
            for node in ast.walk(ast.parse(path.read_text(encoding="utf-8"))):
                self.assertNotIsInstance(node, ast.Import, path)
                if isinstance(node, ast.ImportFrom):
                    self.assertEqual(node.level, 0, path)
                    self.assertIn(node.module.split(".")[0], ("ringorders",) + LIBRARY, path)
                    self.assertTrue(all(name.asname is None and name.name != "*" for name in node.names), path)


if __name__ == "__main__":
    unittest.main()
