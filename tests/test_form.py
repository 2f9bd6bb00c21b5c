"""The measurable rules of the language that the package is written in."""

import ast
import pathlib
import unittest

import sugartrue

FOLDER = pathlib.Path(sugartrue.__file__).parent
LISTED = {
    "errors": ("SugarError", "TextError", "FormError", "MatchError", "ScopeError", "LimitError", "StuckError"),
    "reading": ("read", "write", "write_program"),
    "expanding": ("expand",),
    "apart": ("expand_apart",),
    "terms": ("alike", "put"),
    "machine": ("step", "run"),
    "naming": ("classes", "rename"),
    "showing": ("show",),
    "play": ("report",),
}


class Form(unittest.TestCase):
    def files(self):
        for path in sorted(FOLDER.glob("*.py")):
            with self.subTest(file=path.name):
                text = path.read_bytes().decode("ascii")
                yield path, text, ast.parse(text)

    def test_sizes_and_characters(self):
        for _, text, tree in self.files():
            self.assertTrue(all(sign == "\n" or " " <= sign <= "~" for sign in text))
            lines = text.split("\n")
            self.assertLessEqual(len(lines), 399)
            self.assertLessEqual(max(map(len, lines)), 120)
            for node in ast.walk(tree):
                if isinstance(node, ast.FunctionDef):
                    self.assertLessEqual(node.end_lineno - node.lineno + 1, 40)
                    self.assertEqual(node.decorator_list, [])

    def test_imports(self):
        for _, _, tree in self.files():
            for node in ast.walk(tree):
                self.assertNotIsInstance(node, ast.Import)
                if isinstance(node, ast.ImportFrom):
                    self.assertTrue(node.module.startswith("sugartrue."))
                    names = [name.name for name in node.names]
                    source = ast.parse((FOLDER / (node.module.split(".")[1] + ".py")).read_text())
                    own = [part.name for part in source.body if isinstance(part, (ast.FunctionDef, ast.ClassDef))]
                    own += [part.targets[0].id for part in source.body if isinstance(part, ast.Assign)]
                    self.assertEqual([name for name in names if name not in own], [])

    def test_the_interface_stands_where_it_is_listed(self):
        for module, names in LISTED.items():
            tree = ast.parse((FOLDER / (module + ".py")).read_text())
            own = [part.name for part in tree.body if isinstance(part, (ast.FunctionDef, ast.ClassDef))]
            for name in names:
                self.assertIn(name, own)

    def test_no_percent_sign_stands_in_a_file(self):
        for _, text, _ in self.files():
            self.assertNotIn(chr(37), text)


if __name__ == "__main__":
    unittest.main()
