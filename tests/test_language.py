"""What a test can see of the rules of the language in which the package is written."""

import ast
import unittest
from pathlib import Path

PACKAGE = Path(__file__).resolve().parent.parent / "namescripts"
FILES = sorted(path for path in PACKAGE.rglob("*") if "__pycache__" not in path.parts)
BARRED = (ast.Global, ast.AsyncFunctionDef, ast.Import, ast.Set, ast.Div, ast.Lambda)
UNUSED = [
    "register", "mro", "elements", "open", "input", "law", "map", "filter", "eval", "exec", "id", "vars", "os",
    "frozenset", "iter", "next", "hash", "round", "set",
]
INTERFACE = {
    "names.py": ["is_name", "is_folder"],
    "rules.py": ["is_rule", "is_script", "fits", "makes", "first", "turned"],
    "folders.py": ["at_once", "moved", "walked", "rings", "safe_order"],
    "judged.py": ["clash", "matters", "swap", "first_for", "idle", "source"],
    "alike.py": ["is_row", "turned_by", "unlike"],
    "texts.py": ["rule_text", "script_text", "read_rule", "read_script"],
}
CLASSES = {
    "desks.py": ("Desk", [
        "put", "take", "keep", "drop", "do", "undo", "folder", "kept", "words", "past", "twin", "__init__", "__len__",
    ]),
}


class Language(unittest.TestCase):
    def test_files(self):
        for path in FILES:
            with self.subTest(path=path.name):
                self.assertTrue(path.is_file())
                self.assertEqual(path.suffix, ".py")
        self.assertTrue({"__init__.py", "errors.py", *INTERFACE, *CLASSES} <= {path.name for path in FILES})

    def test_lines_and_characters(self):
        for path in FILES:
            with self.subTest(path=path.name):
                text = path.read_text("utf-8")
                self.assertTrue(all(sign == "\n" or " " <= sign <= "~" for sign in text))
                self.assertLessEqual(len(text.splitlines()), 399)
                self.assertLessEqual(max(map(len, text.splitlines())), 120)

    def test_functions_have_40_lines_at_most(self):
        for path in FILES:
            for node in ast.walk(ast.parse(path.read_text("utf-8"))):
                if isinstance(node, ast.FunctionDef):
                    with self.subTest(path=path.name, name=node.name):
                        self.assertLessEqual(node.end_lineno - node.lineno + 1, 40)
                        self.assertEqual(node.decorator_list, [])

    def test_imports_come_from_the_package_by_full_names(self):
        for path in FILES:
            for node in ast.walk(ast.parse(path.read_text("utf-8"))):
                with self.subTest(path=path.name, line=getattr(node, "lineno", 0)):
                    self.assertNotIsInstance(node, BARRED)
                    if isinstance(node, ast.ImportFrom):
                        self.assertEqual(node.level, 0)
                        self.assertTrue(node.module.startswith("namescripts."))
                        self.assertTrue(all(part.name != "*" and part.asname is None for part in node.names))

    def test_no_numbers_with_a_point(self):
        for path in FILES:
            for node in ast.walk(ast.parse(path.read_text("utf-8"))):
                if isinstance(node, ast.Constant):
                    self.assertNotIsInstance(node.value, (float, complex))

    def test_the_interface_is_defined_in_its_files(self):
        for file, calls in INTERFACE.items():
            tree = ast.parse((PACKAGE / file).read_text("utf-8"))
            defined = [node.name for node in tree.body if isinstance(node, ast.FunctionDef)]
            for call in calls:
                with self.subTest(call=call):
                    self.assertEqual(defined.count(call), 1)

    def test_each_method_stands_in_the_body_of_its_class(self):
        for file, (name, methods) in CLASSES.items():
            tree = ast.parse((PACKAGE / file).read_text("utf-8"))
            found = [node for node in tree.body if isinstance(node, ast.ClassDef) and node.name == name]
            self.assertEqual(len(found), 1)
            defined = [node.name for node in found[0].body if isinstance(node, ast.FunctionDef)]
            for method in methods:
                with self.subTest(method=method):
                    self.assertEqual(defined.count(method), 1)

    def test_no_words_that_the_rules_bar(self):
        for path in FILES:
            for node in ast.walk(ast.parse(path.read_text("utf-8"))):
                named = [getattr(node, field, None) for field in ("id", "arg", "attr", "name")]
                for word in named:
                    with self.subTest(path=path.name, word=word):
                        self.assertNotIn(word, UNUSED)


if __name__ == "__main__":
    unittest.main()
