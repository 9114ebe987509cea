"""How the package is laid out: its files, their sizes, what they import."""

import ast
import contextlib
import io
import pathlib
import unittest

PACKAGE = pathlib.Path(__file__).resolve().parent.parent / "laidink"
FILES = sorted(PACKAGE.glob("*.py"))
# The modules in the order in which they may need one another.
MODULES = [
    "errors", "light", "films", "inks", "effects", "rows", "fields", "parts", "prints", "spots", "charts", "papers",
    "plain", "orders", "colours", "pulls", "faults", "fewest", "notation", "shapes", "sheets", "press",
]


def imports_of(path):
    tree = ast.parse(path.read_text(encoding="utf-8"))
    return [node for node in ast.walk(tree) if isinstance(node, (ast.Import, ast.ImportFrom))]


class Layout(unittest.TestCase):
    def test_the_folder_contains_only_modules(self):
        names = [path.name for path in PACKAGE.iterdir() if path.name != "__pycache__"]
        wanted = ["__init__.py"] + [module + ".py" for module in MODULES]
        self.assertEqual(sorted(names), sorted(wanted))

    def test_sizes_and_characters(self):
        for path in FILES:
            text = path.read_text(encoding="utf-8")
            self.assertLessEqual(len(text.splitlines()), 399, path.name)
            for line in text.split("\n"):
                self.assertLessEqual(len(line), 120, path.name)
                self.assertTrue(all(" " <= sign <= "~" for sign in line), path.name)

    def test_lengths_of_functions(self):
        for path in FILES:
            for node in ast.walk(ast.parse(path.read_text(encoding="utf-8"))):
                if isinstance(node, ast.FunctionDef):
                    self.assertLessEqual(node.end_lineno - node.lineno + 1, 40, node.name)

    def test_a_module_needs_only_modules_above_it(self):
        for at, module in enumerate(MODULES):
            for node in imports_of(PACKAGE / (module + ".py")):
                self.assertIsInstance(node, ast.ImportFrom)
                if node.module == "math":
                    self.assertEqual([one.name for one in node.names], ["lcm"])
                    continue
                above = ["laidink." + name for name in MODULES[:at]]
                self.assertIn(node.module, above)
                self.assertTrue(all(one.asname is None for one in node.names))

    def test_the_usage_in_the_readme_runs(self):
        text = (PACKAGE.parent / "README.md").read_text(encoding="utf-8")
        code = text.split("```python\n")[1].split("```")[0]
        with contextlib.redirect_stdout(io.StringIO()) as printed:
            exec(code, {})
        self.assertNotEqual(printed.getvalue(), "")


if __name__ == "__main__":
    unittest.main()
