"""A part of ../shared/LANGUAGE.md that can be seen from the files; the rules' numbers stand with the tests."""

import ast
import re
import unittest
from pathlib import Path

PACKAGE = Path(__file__).resolve().parent.parent / "turnsets"

BARRED_WORDS = [
    "type", "typing", "typing_extensions", "enum", "Enum", "IntEnum", "StrEnum", "Flag", "IntFlag", "Generic",
    "Protocol", "ABC", "ABCMeta", "namedtuple", "NamedTuple", "TypedDict", "TYPE_CHECKING", "abstractmethod",
]

BARRED_NAMES = ["register", "mro", "elements", "open", "input", "law", "version_info", "with_traceback", "add_note"]


def sources():
    return {path.name: path.read_text(encoding="utf-8") for path in sorted(PACKAGE.glob("*.py"))}


def nodes(kind):
    return [(name, node) for name, text in sources().items()
            for node in ast.walk(ast.parse(text)) if isinstance(node, kind)]


class Language(unittest.TestCase):

    def test_l1_and_l14_the_folder_holds_files_of_plain_names_only(self):
        for path in PACKAGE.iterdir():
            if path.name != "__pycache__":
                self.assertRegex(path.name, r"^[a-z0-9_]+\.py$")

    def test_l2_and_l16_imports(self):
        self.assertEqual(nodes(ast.Import), [])
        for name, node in nodes(ast.ImportFrom):
            self.assertTrue(node.level == 0 and node.module.startswith("turnsets."), name)
            file = PACKAGE / (node.module.split(".")[1] + ".py")
            bound = ast.parse(file.read_text(encoding="utf-8")).body
            names = [row.name for row in bound if isinstance(row, (ast.ClassDef, ast.FunctionDef))]
            names += [target.id for row in bound if isinstance(row, ast.Assign) for target in row.targets]
            for alias in node.names:
                self.assertIn(alias.name, names)

    def test_l10_sizes(self):
        for name, text in sources().items():
            lines = text.split("\n")
            self.assertLessEqual(len(lines), 399, name)
            for line in lines:
                self.assertLessEqual(len(line), 120, name)
        for name, node in nodes(ast.FunctionDef):
            self.assertLessEqual(node.end_lineno - node.lineno + 1, 40, node.name)

    def test_l12_and_l17_names(self):
        names = [node.id for name, node in nodes(ast.Name)] + [node.arg for name, node in nodes(ast.arg)]
        names += [node.attr for name, node in nodes(ast.Attribute)]
        for name in names:
            self.assertNotIn(name, BARRED_NAMES)
            self.assertFalse(name.startswith("_"), name)

    def test_l14_characters(self):
        for name, text in sources().items():
            self.assertRegex(text, r"\A[ -~\n]*\Z", name)

    def test_l17_words(self):
        for name, text in sources().items():
            found = set(re.findall(r"[A-Za-z_]+", text)) & set(BARRED_WORDS)
            self.assertEqual(sorted(found), [], name)

    def test_l18_no_name_is_a_method_and_an_attribute(self):
        methods = [row.name for name, node in nodes(ast.ClassDef) for row in node.body
                   if isinstance(row, ast.FunctionDef)]
        stored = [node.attr for name, node in nodes(ast.Attribute) if isinstance(node.ctx, ast.Store)]
        self.assertEqual(sorted(set(methods) & set(stored)), [])


if __name__ == "__main__":
    unittest.main()
