"""A part of ../shared/LANGUAGE.md that can be seen from the files; the rules' numbers stand with the tests."""

import ast
import builtins
import re
import unittest
from pathlib import Path

PACKAGE = Path(__file__).resolve().parent.parent / "turnsets"

BARRED_WORDS = [
    "type", "typing", "typing_extensions", "enum", "Enum", "IntEnum", "StrEnum", "Flag", "IntFlag", "Generic",
    "Protocol", "ABC", "ABCMeta", "namedtuple", "NamedTuple", "TypedDict", "TYPE_CHECKING", "abstractmethod",
]

BARRED_NAMES = ["register", "mro", "elements", "open", "input", "law", "version_info", "with_traceback", "add_note"]

# The builtins that the package may call, and the words that stand for values.
LET_BUILTINS = [
    "len", "range", "enumerate", "zip", "min", "max", "sum", "abs", "sorted", "reversed", "int", "str", "bool", "list",
    "tuple", "dict", "set", "isinstance", "ord", "repr", "any", "all", "divmod", "iter", "next", "ValueError",
]

# The methods of builtin values that the package calls, all of them in L25.
LET_METHODS = [
    "append", "count", "extend", "get", "index", "isalpha", "isascii", "islower", "items", "join", "pop", "setdefault",
    "update", "values",
]


def sources():
    return {path.name: path.read_text(encoding="utf-8") for path in sorted(PACKAGE.glob("*.py"))}


def nodes(kind):
    return [(name, node) for name, text in sources().items()
            for node in ast.walk(ast.parse(text)) if isinstance(node, kind)]


class Language(unittest.TestCase):

    def test_l1_and_l14_the_folder_holds_files_of_plain_names_only(self):
        for path in PACKAGE.iterdir():
            if path.name != "__pycache__":
                self.assertRegex(path.name, r"^[a-z0-9_]+\.py$")

    def test_l2_and_l16_imports(self):
        self.assertEqual(nodes(ast.Import), [])
        for name, node in nodes(ast.ImportFrom):
            self.assertTrue(node.level == 0 and node.module.startswith("turnsets."), name)
            file = PACKAGE / (node.module.split(".")[1] + ".py")
            bound = ast.parse(file.read_text(encoding="utf-8")).body
            names = [row.name for row in bound if isinstance(row, (ast.ClassDef, ast.FunctionDef))]
            names += [target.id for row in bound if isinstance(row, ast.Assign) for target in row.targets]
            for alias in node.names:
                self.assertIn(alias.name, names)

    def test_l10_sizes(self):
        for name, text in sources().items():
            lines = text.split("\n")
            self.assertLessEqual(len(lines), 399, name)
            for line in lines:
                self.assertLessEqual(len(line), 120, name)
        for name, node in nodes(ast.FunctionDef):
            self.assertLessEqual(node.end_lineno - node.lineno + 1, 40, node.name)

    def test_l12_and_l17_names(self):
        names = [node.id for name, node in nodes(ast.Name)] + [node.arg for name, node in nodes(ast.arg)]
        names += [node.attr for name, node in nodes(ast.Attribute)]
        for name in names:
            self.assertNotIn(name, BARRED_NAMES)
            self.assertFalse(name.startswith("_"), name)

    def test_l14_characters(self):
        for name, text in sources().items():
            self.assertRegex(text, r"\A[ -~\n]*\Z", name)

    def test_l17_words(self):
        for name, text in sources().items():
            found = set(re.findall(r"[A-Za-z_]+", text)) & set(BARRED_WORDS)
            self.assertEqual(sorted(found), [], name)

    def test_l18_no_name_is_a_method_and_an_attribute(self):
        methods = [row.name for name, node in nodes(ast.ClassDef) for row in node.body
                   if isinstance(row, ast.FunctionDef)]
        stored = [node.attr for name, node in nodes(ast.Attribute) if isinstance(node.ctx, ast.Store)]
        self.assertEqual(sorted(set(methods) & set(stored)), [])

    def test_l3_only_plain_values_at_module_level(self):
        for name, text in sources().items():
            for row in ast.parse(text).body:
                if isinstance(row, ast.Assign):
                    ast.literal_eval(row.value)
                    self.assertEqual([type(target) for target in row.targets], [ast.Name])
                elif isinstance(row, ast.Expr):
                    self.assertIsInstance(row.value, ast.Constant)
                else:
                    self.assertIsInstance(row, (ast.ImportFrom, ast.ClassDef, ast.FunctionDef))

    def test_l4_no_decorators_and_l21_no_annotations(self):
        for name, node in nodes(ast.FunctionDef):
            self.assertEqual((node.decorator_list, node.returns, node.args.posonlyargs), ([], None, []), node.name)
        for name, node in nodes(ast.arg):
            self.assertIsNone(node.annotation, node.arg)
        self.assertEqual(nodes(ast.AnnAssign), [])

    def test_l7_no_generator_expressions_and_no_floats(self):
        self.assertEqual(nodes(ast.GeneratorExp), [])
        self.assertEqual(nodes(ast.Div), [])
        self.assertEqual([node.value for name, node in nodes(ast.Constant) if isinstance(node.value, float)], [])

    def test_l8_builtins(self):
        for name, node in nodes(ast.Name):
            if node.id in vars(builtins):
                self.assertIn(node.id, LET_BUILTINS)
                self.assertIsInstance(node.ctx, ast.Load)
        for name, node in nodes(ast.arg):
            self.assertNotIn(node.arg, vars(builtins))

    def test_l15_no_local_name_is_that_of_a_class_or_an_import(self):
        for name, text in sources().items():
            tree = ast.parse(text)
            bound = [row.name for row in tree.body if isinstance(row, ast.ClassDef)]
            bound += [alias.name for row in tree.body if isinstance(row, ast.ImportFrom) for alias in row.names]
            top = [target for row in tree.body if isinstance(row, ast.Assign) for target in row.targets]
            local = [node.arg for node in ast.walk(tree) if isinstance(node, ast.arg)]
            local += [node.id for node in ast.walk(tree) if isinstance(node, ast.Name)
                      and isinstance(node.ctx, ast.Store) and node not in top]
            self.assertEqual(sorted(set(local) & set(bound)), [], name)

    def test_l20_is_only_with_none_and_truths(self):
        for name, node in nodes(ast.Compare):
            for sign, right in zip(node.ops, node.comparators):
                if isinstance(sign, (ast.Is, ast.IsNot)):
                    self.assertTrue(isinstance(right, ast.Constant) and right.value in (None, True, False), name)

    def test_l19_only_own_errors_are_caught(self):
        own = [row.name for row in ast.parse(sources()["errors.py"]).body if isinstance(row, ast.ClassDef)]
        for name, node in nodes(ast.ExceptHandler):
            self.assertIsInstance(node.type, ast.Name)
            self.assertIn(node.type.id, own)

    def test_l6_only_names_and_attributes_are_assigned_in_a_finally(self):
        for name, node in nodes(ast.Try):
            for row in node.finalbody:
                self.assertIsInstance(row, ast.Assign)
                self.assertEqual(len(row.targets), 1)
                for part in ast.walk(row):
                    self.assertIsInstance(part, (ast.Assign, ast.Tuple, ast.Name, ast.Attribute, ast.expr_context))

    def test_l25_and_l26_methods(self):
        own = [row.name for name, node in nodes(ast.ClassDef) for row in node.body if isinstance(row, ast.FunctionDef)]
        for name, node in nodes(ast.Call):
            if isinstance(node.func, ast.Attribute):
                self.assertIn(node.func.attr, own + LET_METHODS, name)
        for method in own:
            if not method.startswith("__"):
                for kind in (str, int, list, dict, bytes):
                    self.assertFalse(hasattr(kind, method), method)

    def test_l24_sets_stand_in_len_only(self):
        counted = [node.args[0] for name, node in nodes(ast.Call)
                   if isinstance(node.func, ast.Name) and node.func.id == "len"]
        for name, node in nodes((ast.SetComp, ast.Set)):
            self.assertIn(ast.dump(node), [ast.dump(one) for one in counted], name)

    def test_l27_no_percent_sign_in_a_string(self):
        for name, node in nodes(ast.Constant):
            if isinstance(node.value, str):
                self.assertNotIn("%", node.value)


if __name__ == "__main__":
    unittest.main()
