"""Rules of the language that are easily broken by mistake: sizes, characters, imports."""

import ast
import builtins
import unittest
from pathlib import Path

PACKAGE = Path(__file__).resolve().parent.parent / "selfdrawn"
# A name that begins with an underscore can be there for a while: doctest sets one.
BUILTINS = {name for name in dir(builtins) if not name.startswith("_")}
OUTSIDE = {"math": {"gcd", "lcm", "isqrt", "comb", "perm", "factorial"}}


def files():
    return sorted(path for path in PACKAGE.rglob("*") if path.is_file() and "__pycache__" not in path.parts)


class LanguageTest(unittest.TestCase):

    def test_files_are_python_files_of_plain_characters(self):
        for path in files():
            self.assertEqual(path.suffix, ".py")
            text = path.read_text(encoding="utf-8")
            self.assertEqual([sign for sign in text if sign != "\n" and not " " <= sign <= "~"], [], path)

    def test_sizes(self):
        for path in files():
            lines = path.read_text().split("\n")
            self.assertLessEqual(len(lines), 399, path)
            self.assertLessEqual(max(len(line) for line in lines), 120, path)
            for part in ast.walk(ast.parse("\n".join(lines))):
                if isinstance(part, ast.FunctionDef):
                    self.assertLessEqual(part.end_lineno - part.lineno + 1, 40, (path, part.name))

    def test_imports(self):
        for path in files():
            for part in ast.walk(ast.parse(path.read_text())):
                self.assertNotIsInstance(part, ast.Import, path)
                if isinstance(part, ast.ImportFrom) and not part.module.startswith("selfdrawn."):
                    self.assertLessEqual({name.name for name in part.names}, OUTSIDE.get(part.module, set()), path)

    def test_what_is_not_used(self):
        for path in files():
            for part in ast.walk(ast.parse(path.read_text())):
                self.assertNotIsInstance(part, (ast.GeneratorExp, ast.Global, ast.AsyncFunctionDef, ast.Pow, ast.Div, ast.SetComp), path)
                if isinstance(part, ast.Constant):
                    self.assertNotIsInstance(part.value, (float, complex), path)
                    self.assertFalse(isinstance(part.value, str) and "%" in part.value, path)

    def test_no_name_has_another_meaning(self):
        for path in files():
            tree = ast.parse(path.read_text())
            imported = {name.name for part in tree.body if isinstance(part, ast.ImportFrom) for name in part.names}
            classes = {part.name for part in tree.body if isinstance(part, ast.ClassDef)}
            for part in ast.walk(tree):
                bound = None
                if isinstance(part, ast.Name) and isinstance(part.ctx, ast.Store):
                    bound = part.id
                elif isinstance(part, ast.arg):
                    bound = part.arg
                elif isinstance(part, ast.FunctionDef) and part not in [one for kind in tree.body if isinstance(kind, ast.ClassDef) for one in kind.body]:
                    bound = part.name
                self.assertNotIn(bound, BUILTINS | imported | classes, path)

    def test_imports_are_used_and_lead_to_where_names_are_defined(self):
        trees = {path.stem: ast.parse(path.read_text()) for path in files()}
        for tree in trees.values():
            used = {part.id for part in ast.walk(tree) if isinstance(part, ast.Name)}
            for part in tree.body:
                if isinstance(part, ast.ImportFrom):
                    self.assertLessEqual({name.name for name in part.names}, used)
                    if part.module.startswith("selfdrawn."):
                        body = trees[part.module.split(".")[1]].body
                        there = {one.name for one in body if isinstance(one, (ast.FunctionDef, ast.ClassDef))}
                        there |= {target.id for one in body if isinstance(one, ast.Assign) for target in one.targets}
                        self.assertLessEqual({name.name for name in part.names}, there)
