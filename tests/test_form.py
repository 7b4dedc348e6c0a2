"""The form of the package: what of its rules can be counted, and where the interface is defined."""
import ast
import importlib
import unittest
from pathlib import Path

FOLDER = Path(__file__).resolve().parent.parent / "ranksweeps"
FILES = sorted(FOLDER.glob("*.py"))
LIBRARY = ("heapq", "math", "itertools")
DEFINED = {
    "errors": ("SweepError", "NoRow", "NoSweep", "NoChain", "NoNumber", "TooMany", "TooLarge", "NoRows",
               "NoForm", "NoRing", "NoText", "NoAnswer", "NoName"),
    "rows": ("is_row", "is_bits", "level", "levels"),
    "chains": ("Chain",),
    "sweeps": ("Sweep",),
    "passes": ("stays", "passes", "after"),
    "machines": ("Rows", "all_rows", "no_rows", "rows_of", "valued"),
    "decided": ("differing", "above", "parting", "relation", "form", "alike_forms"),
    "settling": ("staying", "swinging", "unsettled", "settles", "staying_count"),
    "images": ("images", "never", "sources", "source", "ways", "kept"),
    "rings": ("ring", "ring_passes", "ring_relation", "ring_parting", "ring_count"),
    "cheapest": ("cheapest", "ruled_out", "check_cheapest"),
    "texts": ("chain_text", "rows_text", "read_chain", "read_rows"),
    "desks": ("Desk", "Trial"),
}


class Form(unittest.TestCase):
    def test_the_folder_holds_only_files_of_the_package(self):
        others = [path.name for path in FOLDER.iterdir() if path.suffix != ".py" and path.name != "__pycache__"]
        self.assertEqual(others, [])
        self.assertIn(FOLDER / "__init__.py", FILES)

    def test_sizes_and_characters(self):
        for path in FILES:
            text = path.read_text(encoding="utf-8")
            lines = text.split("\n")
            with self.subTest(path.name):
                self.assertLess(len(lines), 400)
                self.assertLessEqual(max(len(line) for line in lines), 120)
                self.assertEqual([c for c in text if not (" " <= c <= "~" or c == "\n")], [])

    def test_functions_have_at_most_40_lines(self):
        for path in FILES:
            for node in ast.walk(ast.parse(path.read_text(encoding="utf-8"))):
                if isinstance(node, ast.FunctionDef):
                    with self.subTest(path.name, function=node.name):
                        self.assertLessEqual(node.end_lineno - node.lineno + 1, 40)

    def test_imports_are_from_the_package_by_full_names(self):
        for path in FILES:
            for node in ast.walk(ast.parse(path.read_text(encoding="utf-8"))):
                self.assertNotIsInstance(node, ast.Import)
                if isinstance(node, ast.ImportFrom):
                    with self.subTest(path.name, line=node.lineno):
                        self.assertEqual(node.level, 0)
                        self.assertTrue(node.module.startswith("ranksweeps.") or node.module in LIBRARY)

    def test_the_interface_is_defined_where_it_is_listed(self):
        for module, names in DEFINED.items():
            for name in names:
                with self.subTest(module, name=name):
                    found = getattr(importlib.import_module(f"ranksweeps.{module}"), name)
                    self.assertEqual(found.__module__, f"ranksweeps.{module}")


if __name__ == "__main__":
    unittest.main()
