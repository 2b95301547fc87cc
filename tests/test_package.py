"""What the folder of the package holds, and what README.md shows."""

import ast
import doctest
import pathlib
import unittest

ROOT = pathlib.Path(__file__).resolve().parent.parent
PACKAGE = ROOT / "mayrest"


class TestFolder(unittest.TestCase):

    def test_it_holds_python_files_alone(self):
        # Python itself leaves __pycache__ there when it is run without -B; it is never committed.
        names = [entry.name for entry in PACKAGE.iterdir() if entry.name != "__pycache__"]
        self.assertEqual([name for name in names if not name.endswith(".py")], [])
        self.assertIn("__init__.py", names)

    def test_its_files_hold_plain_characters_and_short_lines(self):
        for file in PACKAGE.glob("*.py"):
            with self.subTest(file=file.name):
                text = file.read_text(encoding="utf-8")
                self.assertEqual([c for c in text if c != "\n" and not " " <= c <= "~"], [])
                lines = text.split("\n")
                self.assertLess(len(lines), 400)
                self.assertLessEqual(max(len(line) for line in lines), 120)

    def test_its_functions_are_short(self):
        for file in PACKAGE.glob("*.py"):
            for node in ast.walk(ast.parse(file.read_text(encoding="utf-8"))):
                if isinstance(node, ast.FunctionDef):
                    with self.subTest(file=file.name, function=node.name):
                        self.assertLessEqual(node.end_lineno - node.lineno + 1, 40)

    def test_what_operators_run_changes_items_of_items_by_assignments_alone(self):
        for name in ("paths", "programs", "chains", "rules", "breaks", "books"):
            for node in ast.walk(ast.parse((PACKAGE / (name + ".py")).read_text(encoding="utf-8"))):
                if isinstance(node, ast.Attribute):
                    with self.subTest(file=name, line=node.lineno):
                        self.assertNotIn(node.attr, ("setdefault", "update"))


class TestReadme(unittest.TestCase):

    def test_its_examples_are_true(self):
        failed, attempted = doctest.testfile(str(ROOT / "README.md"), module_relative=False)
        self.assertEqual(failed, 0)
        self.assertGreater(attempted, 0)


if __name__ == "__main__":
    unittest.main()
