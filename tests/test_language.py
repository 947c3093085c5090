"""Rules of the language that are easily broken by mistake: sizes, characters, imports."""

import ast
import unittest
from pathlib import Path

PACKAGE = Path(__file__).resolve().parent.parent / "selfdrawn"
OUTSIDE = {"math": {"gcd", "lcm", "isqrt", "comb", "perm", "factorial"}}


def files():
    return sorted(path for path in PACKAGE.rglob("*") if path.is_file() and "__pycache__" not in path.parts)


class LanguageTest(unittest.TestCase):

    def test_files_are_python_files_of_plain_characters(self):
        for path in files():
            self.assertEqual(path.suffix, ".py")
            text = path.read_text(encoding="utf-8")
            self.assertEqual([sign for sign in text if sign != "\n" and not " " <= sign <= "~"], [], path)

    def test_sizes(self):
        for path in files():
            lines = path.read_text().split("\n")
            self.assertLessEqual(len(lines), 399, path)
            self.assertLessEqual(max(len(line) for line in lines), 120, path)
            for part in ast.walk(ast.parse("\n".join(lines))):
                if isinstance(part, ast.FunctionDef):
                    self.assertLessEqual(part.end_lineno - part.lineno + 1, 40, (path, part.name))

    def test_imports(self):
        for path in files():
            for part in ast.walk(ast.parse(path.read_text())):
                self.assertNotIsInstance(part, ast.Import, path)
                if isinstance(part, ast.ImportFrom) and not part.module.startswith("selfdrawn."):
                    self.assertLessEqual({name.name for name in part.names}, OUTSIDE.get(part.module, set()), path)
