"""[3] and [41]: names, arguments and places of the interface, and calls by these names."""

import ast
import copy
import importlib
import inspect
import unittest
from pathlib import Path

from samples import ROWS, sample_tree, small_tree
from turnsets import cheap, deeds, errors, meanings, moving, trees

PACKAGE = Path(__file__).resolve().parent.parent / "turnsets"

# For each class its parameters and its methods with theirs.
CLASSES = {
    "trees": {
        "Tree": (["rows"], {
            "rows": [], "folder": ["box"], "kind": ["box"], "price": ["box"], "inside": ["box"], "below": ["box"],
            "way": ["box"], "steps": ["one", "other"], "more": ["row"], "less": ["box"], "moved": ["box", "folder"],
            "opened": ["box", "rows"], "__len__": [], "__contains__": None, "__eq__": None}),
    },
    "meanings": {
        "Meaning": (["tree", "default", "turns"], {
            "value": ["box"], "states": [], "price": [], "__contains__": None, "__len__": [], "__iter__": [],
            "__eq__": None, "__xor__": None, "__and__": None, "__or__": None, "__sub__": None, "__invert__": []}),
    },
    "deeds": {
        "Row": (["tree", "deeds"], {
            "deeds": [], "maps": [], "entries": [], "least": [], "undo": [], "__call__": ["meaning"], "__len__": [],
            "__add__": None, "__eq__": None}),
    },
    # How one is made is free.
    "cheap": {"Cheapest": (None, {})},
}

FUNCTIONS = {
    "meanings": {"parting": ["one", "other"], "middle": ["meanings"]},
    "deeds": {"idle": ["row"], "clash": ["one", "other"], "fewest_deeds": ["one", "other"],
              "join": ["meaning", "one", "other"]},
    "moving": {"moved": ["meaning", "box", "folder", "rule"], "back": ["meaning", "box", "folder", "rule"],
               "unlike_moves": ["meaning", "rule", "other"]},
    "cheap": {"cheapest": ["tree", "wish", "default"], "is_ways": ["tree", "wish", "default", "thing"],
              "how_many": ["tree", "wish", "default"]},
}

ERRORS = [
    "BoxError", "BadRow", "NoBox", "BadMove", "NotShut", "BadDefault", "Locked", "UnlikeTrees", "LockedTree",
    "BadDeed", "Clash", "BadRule", "BadWish", "Barred", "BadNumber", "TooDear", "BadRange", "BadTable", "NotSure",
    "BadLine",
]


def module(name):
    return importlib.import_module("turnsets." + name)


def defined(name, kind):
    """The names of the classes or functions that the file itself defines."""
    rows = ast.parse((PACKAGE / (name + ".py")).read_text(encoding="utf-8")).body
    return [row.name for row in rows if isinstance(row, kind)]


def parameters(function):
    return list(inspect.signature(function).parameters)


class Names(unittest.TestCase):

    def test_each_class_and_its_methods_are_defined_in_its_file(self):
        for name, classes in CLASSES.items():
            for title, (told, methods) in classes.items():
                self.assertIn(title, defined(name, ast.ClassDef))
                made = getattr(module(name), title)
                if told is not None:
                    self.assertEqual(parameters(made), told)
                for method, takes in methods.items():
                    self.assertIn(method, vars(made), title)
                    if takes is not None:
                        self.assertEqual(parameters(vars(made)[method])[1:], takes, method)

    def test_each_function_is_defined_in_its_file(self):
        for name, functions in FUNCTIONS.items():
            for title, takes in functions.items():
                self.assertIn(title, defined(name, ast.FunctionDef))
                self.assertEqual(parameters(getattr(module(name), title)), takes)

    def test_each_error_is_defined_in_its_file(self):
        self.assertEqual(sorted(defined("errors", ast.ClassDef)), sorted(ERRORS))

    def test_attributes_are_set_when_an_object_is_made(self):
        meaning = meanings.Meaning(sample_tree(), True)
        for attribute in ("tree", "default", "turns"):
            self.assertIn(attribute, vars(meaning))
        self.assertIn("tree", vars(deeds.Row(small_tree(), [])))
        found = cheap.cheapest(small_tree(), {})
        for attribute in ("cost", "wide", "narrow", "ways"):
            self.assertIn(attribute, vars(found))


class CallsByName(unittest.TestCase):

    def setUp(self):
        self.tree = sample_tree()

    def test_trees(self):
        tree = trees.Tree(rows=ROWS)
        self.assertEqual(tree, self.tree)
        self.assertEqual(tree.folder(box="d"), "c")
        self.assertEqual(tree.kind(box="s"), "shut")
        self.assertEqual(tree.price(box="e"), 6)
        self.assertEqual(tree.inside(box="x"), ["s"])
        self.assertEqual(tree.below(box="c"), ["d", "f"])
        self.assertEqual(tree.way(box="d"), ["a", "c", "d"])
        self.assertEqual(tree.steps(other="b", one="d"), ["b", "c", "d"])
        row = ("n", "top", "item", 1)
        self.assertEqual(tree.more(row=row), tree.more(row))
        self.assertEqual(tree.less(box="a"), tree.less("a"))
        self.assertEqual(tree.moved(folder="x", box="c"), tree.moved("c", "x"))
        self.assertEqual(tree.opened(rows=[], box="s"), tree.opened("s", []))

    def test_meanings(self):
        meaning = meanings.Meaning(turns=["a"], default=True, tree=self.tree)
        self.assertEqual(meaning, meanings.Meaning(self.tree, True, ["a"]))
        self.assertEqual(meanings.Meaning(tree=self.tree, default=False), meanings.Meaning(self.tree, False, []))
        self.assertIs(meaning.value(box="b"), False)
        self.assertEqual(meanings.parting(other=meaning, one=~meaning), "top")
        self.assertEqual(meanings.middle(meanings=[meaning]), (meaning, []))

    def test_deeds(self):
        tree = small_tree()
        row = deeds.Row(deeds=[["on", "a"]], tree=tree)
        self.assertEqual(row, deeds.Row(tree, [("on", "a")]))
        meaning = meanings.Meaning(tree, False)
        self.assertEqual(row(meaning=meaning), row(meaning))
        self.assertEqual(deeds.idle(row=row), [])
        other = deeds.Row(tree, [("flip", "c")])
        self.assertEqual(deeds.clash(other=other, one=row), "c")
        behind = meanings.Meaning(tree, False, ["b"])
        self.assertEqual(deeds.fewest_deeds(other=behind, one=meaning)(meaning), behind)
        self.assertEqual(deeds.join(other=other, one=row, meaning=meaning), row(meaning))

    def test_moving(self):
        meaning = meanings.Meaning(small_tree(), False, ["a", "c", "e"])
        self.assertEqual(moving.moved(rule="told", folder="top", box="c", meaning=meaning),
                         moving.moved(meaning, "c", "top", "told"))
        self.assertIs(moving.back(rule="told", folder="top", box="c", meaning=meaning), False)
        self.assertEqual(moving.unlike_moves(other="meant", rule="told", meaning=meaning), [("b", "top"), ("d", "top")])

    def test_cheap(self):
        tree, wish = small_tree(), {"c": True, "d": False}
        self.assertEqual(cheap.cheapest(default=True, wish=wish, tree=tree).wide.turns, ("a", "b"))
        self.assertEqual(cheap.cheapest(wish=wish, tree=tree).cost, 2)
        self.assertIs(cheap.is_ways(thing=[(2, "c", "d")], default=None, wish=wish, tree=tree), True)
        self.assertEqual(cheap.how_many(default=False, wish=wish, tree=tree), 1)
        self.assertEqual(cheap.how_many(wish=wish, tree=tree), 1)

    def test_errors(self):
        self.assertEqual(errors.BadMove(into="b", box="a").into, "b")
        self.assertEqual(errors.Barred(other="b", one="a").one, "a")


class Conventions(unittest.TestCase):

    def test_what_is_passed_is_not_changed(self):
        rows = [list(row) for row in ROWS]
        kept = copy.deepcopy(rows)
        tree = trees.Tree(rows)
        more = ["n", "s", "item", 1]
        tree.opened("s", [more])
        tree.less("a").more(["n", "top", "item", 1])
        tree.moved("a", "x")
        turns = ["e", "a", "e"]
        meanings.Meaning(tree, True, turns)
        wish, ways = {"b": True, "a": False}, [[1, "b", "a"]]
        cheap.cheapest(tree, wish)
        cheap.how_many(tree, wish, True)
        cheap.is_ways(tree, wish, True, ways)
        clicks = [["on", "a"], ["flip", "top"]]
        deeds.Row(small_tree(), clicks).least()
        self.assertEqual(rows, kept)
        self.assertEqual(more, ["n", "s", "item", 1])
        self.assertEqual(turns, ["e", "a", "e"])
        self.assertEqual((list(wish.items()), ways), ([("b", True), ("a", False)], [[1, "b", "a"]]))
        self.assertEqual(clicks, [["on", "a"], ["flip", "top"]])

    def test_equal_arguments_tell_the_same(self):
        one, other = sample_tree(), sample_tree()
        self.assertEqual(one.moved("a", "x").rows(), other.moved("a", "x").rows())
        self.assertEqual(list(meanings.Meaning(one, True, ["a", "x"]).states().items()),
                         list(meanings.Meaning(other, True, ("x", "a")).states().items()))
        wish = {"b": True, "e": False, "s": True}
        self.assertEqual(cheap.cheapest(one, wish).ways, cheap.cheapest(other, dict(wish)).ways)


if __name__ == "__main__":
    unittest.main()
