"""[3] and [41]: names, arguments and places of the interface, and calls by these names."""

import ast
import copy
import importlib
import inspect
import unittest
from pathlib import Path

from samples import ROWS, raised, sample_tree, small_tree
from turnsets import cheap, deeds, errors, live, meanings, moving, seen, showing, texts, trees

PACKAGE = Path(__file__).resolve().parent.parent / "turnsets"

# For each class its parameters and its methods with theirs.
CLASSES = {
    "trees": {
        "Tree": (["rows"], {
            "rows": [], "folder": ["box"], "kind": ["box"], "price": ["box"], "inside": ["box"], "below": ["box"],
            "way": ["box"], "steps": ["one", "other"], "more": ["row"], "less": ["box"], "moved": ["box", "folder"],
            "opened": ["box", "rows"], "__len__": [], "__contains__": None, "__eq__": None}),
    },
    "meanings": {
        "Meaning": (["tree", "default", "turns"], {
            "value": ["box"], "states": [], "price": [], "__contains__": None, "__len__": [], "__iter__": [],
            "__eq__": None, "__xor__": None, "__and__": None, "__or__": None, "__sub__": None, "__invert__": []}),
    },
    "deeds": {
        "Row": (["tree", "deeds"], {
            "deeds": [], "maps": [], "entries": [], "least": [], "undo": [], "__call__": ["meaning"], "__len__": [],
            "__add__": None, "__eq__": None}),
    },
    # How one is made is free.
    "cheap": {"Cheapest": (None, {})},
    "showing": {
        "Counts": (["tree", "ranges"], {
            "on": ["meaning", "box"], "off": ["meaning", "box"], "shows": ["meaning", "box"],
            "asks": ["meaning", "box"]}),
    },
    "live": {
        "Live": (["meaning"], {
            "meaning": [], "add": ["row"], "drop": ["box"], "move": ["box", "folder", "rule"], "do": ["word", "box"],
            "turn": ["box"], "on": ["box"], "undo": [], "again": [], "trial": ["work"]}),
    },
}

FUNCTIONS = {
    "meanings": {"parting": ["one", "other"], "middle": ["meanings"]},
    "deeds": {"idle": ["row"], "clash": ["one", "other"], "fewest_deeds": ["one", "other"],
              "join": ["meaning", "one", "other"]},
    "moving": {"moved": ["meaning", "box", "folder", "rule"], "back": ["meaning", "box", "folder", "rule"],
               "unlike_moves": ["meaning", "rule", "other"]},
    "cheap": {"cheapest": ["tree", "wish", "default"], "is_ways": ["tree", "wish", "default", "thing"],
              "how_many": ["tree", "wish", "default"]},
    "seen": {"sure": ["tree", "seen", "most", "default"], "why_sure": ["tree", "seen", "most", "box", "default"],
             "fewest_looks": ["tree", "seen", "most", "default"]},
    "showing": {"click": ["counts", "meaning", "box", "table", "seen"],
                "unseen": ["counts", "meaning", "box", "table", "seen"]},
    "texts": {"write": ["meaning"], "read": ["tree", "lines"], "listed": ["tree", "lines"]},
}

ERRORS = [
    "BoxError", "BadRow", "NoBox", "BadMove", "NotShut", "BadDefault", "Locked", "UnlikeTrees", "LockedTree",
    "BadDeed", "Clash", "BadRule", "BadWish", "Barred", "BadNumber", "TooDear", "BadRange", "BadTable", "NotSure",
    "BadLine",
]


def module(name):
    return importlib.import_module("turnsets." + name)


def defined(name, kind):
    """The names of the classes or functions that the file itself defines."""
    rows = ast.parse((PACKAGE / (name + ".py")).read_text(encoding="utf-8")).body
    return [row.name for row in rows if isinstance(row, kind)]


def parameters(function):
    return list(inspect.signature(function).parameters)


class Names(unittest.TestCase):

    def test_each_class_and_its_methods_are_defined_in_its_file(self):
        for name, classes in CLASSES.items():
            for title, (told, methods) in classes.items():
                self.assertIn(title, defined(name, ast.ClassDef))
                made = getattr(module(name), title)
                if told is not None:
                    self.assertEqual(parameters(made), told)
                for method, takes in methods.items():
                    self.assertIn(method, vars(made), title)
                    if takes is not None:
                        self.assertEqual(parameters(vars(made)[method])[1:], takes, method)

    def test_each_function_is_defined_in_its_file(self):
        for name, functions in FUNCTIONS.items():
            for title, takes in functions.items():
                self.assertIn(title, defined(name, ast.FunctionDef))
                self.assertEqual(parameters(getattr(module(name), title)), takes)

    def test_each_error_is_defined_in_its_file(self):
        self.assertEqual(sorted(defined("errors", ast.ClassDef)), sorted(ERRORS))

    def test_attributes_are_set_when_an_object_is_made(self):
        meaning = meanings.Meaning(sample_tree(), True)
        for attribute in ("tree", "default", "turns"):
            self.assertIn(attribute, vars(meaning))
        self.assertIn("tree", vars(deeds.Row(small_tree(), [])))
        found = cheap.cheapest(small_tree(), {})
        for attribute in ("cost", "wide", "narrow", "ways"):
            self.assertIn(attribute, vars(found))
        self.assertIn("tree", vars(showing.Counts(small_tree())))

    def test_each_file_of_the_interface_is_there(self):
        files = [path.stem for path in PACKAGE.glob("*.py") if path.stem != "__init__"]
        self.assertEqual(sorted(files), ["cheap", "deeds", "errors", "live", "meanings", "moving", "seen", "showing",
                                         "texts", "trees"])


class CallsByName(unittest.TestCase):

    def setUp(self):
        self.tree = sample_tree()

    def test_trees(self):
        tree = trees.Tree(rows=ROWS)
        self.assertEqual(tree, self.tree)
        self.assertEqual(tree.folder(box="d"), "c")
        self.assertEqual(tree.kind(box="s"), "shut")
        self.assertEqual(tree.price(box="e"), 6)
        self.assertEqual(tree.inside(box="x"), ["s"])
        self.assertEqual(tree.below(box="c"), ["d", "f"])
        self.assertEqual(tree.way(box="d"), ["a", "c", "d"])
        self.assertEqual(tree.steps(other="b", one="d"), ["b", "c", "d"])
        row = ("n", "top", "item", 1)
        self.assertEqual(tree.more(row=row), tree.more(row))
        self.assertEqual(tree.less(box="a"), tree.less("a"))
        self.assertEqual(tree.moved(folder="x", box="c"), tree.moved("c", "x"))
        self.assertEqual(tree.opened(rows=[], box="s"), tree.opened("s", []))

    def test_meanings(self):
        meaning = meanings.Meaning(turns=["a"], default=True, tree=self.tree)
        self.assertEqual(meaning, meanings.Meaning(self.tree, True, ["a"]))
        self.assertEqual(meanings.Meaning(tree=self.tree, default=False), meanings.Meaning(self.tree, False, []))
        self.assertIs(meaning.value(box="b"), False)
        self.assertEqual(meanings.parting(other=meaning, one=~meaning), "top")
        self.assertEqual(meanings.middle(meanings=[meaning]), (meaning, []))

    def test_deeds(self):
        tree = small_tree()
        row = deeds.Row(deeds=[["on", "a"]], tree=tree)
        self.assertEqual(row, deeds.Row(tree, [("on", "a")]))
        meaning = meanings.Meaning(tree, False)
        self.assertEqual(row(meaning=meaning), row(meaning))
        self.assertEqual(deeds.idle(row=row), [])
        other = deeds.Row(tree, [("flip", "c")])
        self.assertEqual(deeds.clash(other=other, one=row), "c")
        behind = meanings.Meaning(tree, False, ["b"])
        self.assertEqual(deeds.fewest_deeds(other=behind, one=meaning)(meaning), behind)
        self.assertEqual(deeds.join(other=other, one=row, meaning=meaning), row(meaning))

    def test_moving(self):
        meaning = meanings.Meaning(small_tree(), False, ["a", "c", "e"])
        self.assertEqual(moving.moved(rule="told", folder="top", box="c", meaning=meaning),
                         moving.moved(meaning, "c", "top", "told"))
        self.assertIs(moving.back(rule="told", folder="top", box="c", meaning=meaning), False)
        self.assertEqual(moving.unlike_moves(other="meant", rule="told", meaning=meaning), [("b", "top"), ("d", "top")])

    def test_cheap(self):
        tree, wish = small_tree(), {"c": True, "d": False}
        self.assertEqual(cheap.cheapest(default=True, wish=wish, tree=tree).wide.turns, ("a", "b"))
        self.assertEqual(cheap.cheapest(wish=wish, tree=tree).cost, 2)
        self.assertIs(cheap.is_ways(thing=[(2, "c", "d")], default=None, wish=wish, tree=tree), True)
        self.assertEqual(cheap.how_many(default=False, wish=wish, tree=tree), 1)
        self.assertEqual(cheap.how_many(wish=wish, tree=tree), 1)

    def test_seen(self):
        tree, wish = small_tree(), {"c": True, "d": False}
        self.assertEqual(seen.sure(default=True, most=3, seen=wish, tree=tree), seen.sure(tree, wish, 3, True))
        self.assertEqual(seen.sure(most=2, seen=wish, tree=tree), seen.sure(tree, wish, 2))
        self.assertEqual(seen.why_sure(default=True, box="c", most=3, seen=wish, tree=tree), ("c", "c"))
        self.assertIsNone(seen.why_sure(box="top", most=10 ** 6, seen=wish, tree=tree))
        self.assertEqual(seen.fewest_looks(default=True, most=3, seen=wish, tree=tree), [()])
        self.assertEqual(seen.fewest_looks(most=2, seen=wish, tree=tree), seen.fewest_looks(tree, wish, 2, None))

    def test_showing(self):
        tree = sample_tree()
        meaning, counts = meanings.Meaning(tree, False, ["x"]), showing.Counts(ranges={"s": (1, 2)}, tree=tree)
        self.assertEqual(counts.on(box="x", meaning=meaning), (1, 2))
        self.assertEqual(counts.off(box="top", meaning=meaning), (3, None))
        self.assertEqual(counts.shows(box="top", meaning=meaning), ["part"])
        self.assertEqual(counts.asks(box="f", meaning=meaning), ["f"])
        self.assertEqual(showing.Counts(tree=tree).asks(meaning, "x"), ["s"])
        table = {"on": "off", "off": "flip", "part": "keep", "none": "on"}
        self.assertEqual(showing.click(table=table, box="x", meaning=meaning, counts=counts),
                         meanings.Meaning(tree, False))
        self.assertEqual(showing.click(seen=["e"], table=table, box="top", meaning=meaning, counts=counts).turns,
                         ("x", "e"))
        self.assertEqual(showing.unseen(seen=[], table=table, box="x", meaning=meaning, counts=counts), ["x", "s"])

    def test_texts(self):
        tree = small_tree()
        self.assertEqual(texts.write(meaning=meanings.Meaning(tree, True, ["b"])), ["all", "but a/b"])
        self.assertEqual(texts.read(lines=["none", "but a"], tree=tree), meanings.Meaning(tree, False, ["a"]))
        self.assertEqual(texts.listed(lines=["+ a"], tree=tree), meanings.Meaning(tree, False, ["a"]))

    def test_live(self):
        one = live.Live(meaning=meanings.Meaning(small_tree(), False))
        one.add(row=("n", "top", "item", 1))
        one.drop(box="d")
        one.move(rule="told", folder="top", box="b")
        one.do(box="a", word="on")
        one.turn(box="c")
        self.assertEqual(one.on(box="top"), 1)
        self.assertEqual(one.trial(work=lambda same: same.meaning().turns), ("a", "c"))
        self.assertEqual([one.undo() for times in range(6)], [True] * 5 + [False])
        self.assertEqual([one.again() for times in range(6)], [True] * 5 + [False])

    def test_errors(self):
        self.assertEqual(errors.BadMove(into="b", box="a").into, "b")
        self.assertEqual(errors.Barred(other="b", one="a").one, "a")


class Conventions(unittest.TestCase):

    def test_what_is_passed_is_not_changed(self):
        rows = [list(row) for row in ROWS]
        kept = copy.deepcopy(rows)
        tree = trees.Tree(rows)
        more = ["n", "s", "item", 1]
        tree.opened("s", [more])
        tree.less("a").more(["n", "top", "item", 1])
        tree.moved("a", "x")
        turns = ["e", "a", "e"]
        meanings.Meaning(tree, True, turns)
        wish, ways = {"b": True, "a": False}, [[1, "b", "a"]]
        cheap.cheapest(tree, wish)
        cheap.how_many(tree, wish, True)
        cheap.is_ways(tree, wish, True, ways)
        seen.sure(tree, wish, 40)
        seen.why_sure(tree, wish, 40, "e")
        seen.fewest_looks(tree, wish, 40)
        ranges, table, items = {"s": [1, 2]}, dict.fromkeys(("on", "off", "part", "none"), "flip"), ["e", "b", "e"]
        counts, meaning = showing.Counts(tree, ranges), meanings.Meaning(tree, False, turns)
        showing.click(counts, meaning, "top", table, items)
        showing.unseen(counts, meaning, "top", table, items)
        lines = texts.write(meaning)
        texts.read(tree, lines)
        texts.listed(small_tree(), ["+ a"])
        live.Live(meaning).move("a", "x", "told")
        self.assertEqual((ranges, items, lines), ({"s": [1, 2]}, ["e", "b", "e"], ["none", "but a", "but e"]))
        self.assertEqual(table, dict.fromkeys(("on", "off", "part", "none"), "flip"))
        self.assertEqual(meaning, meanings.Meaning(sample_tree(), False, turns))
        clicks = [["on", "a"], ["flip", "top"]]
        deeds.Row(small_tree(), clicks).least()
        self.assertEqual(rows, kept)
        self.assertEqual(more, ["n", "s", "item", 1])
        self.assertEqual(turns, ["e", "a", "e"])
        self.assertEqual((list(wish.items()), ways), ([("b", True), ("a", False)], [[1, "b", "a"]]))
        self.assertEqual(clicks, [["on", "a"], ["flip", "top"]])

    def test_equal_arguments_tell_the_same(self):
        one, other = sample_tree(), sample_tree()
        self.assertEqual(one.moved("a", "x").rows(), other.moved("a", "x").rows())
        self.assertEqual(list(meanings.Meaning(one, True, ["a", "x"]).states().items()),
                         list(meanings.Meaning(other, True, ("x", "a")).states().items()))
        wish = {"b": True, "e": False, "s": True}
        self.assertEqual(cheap.cheapest(one, wish).ways, cheap.cheapest(other, dict(wish)).ways)
        for place in sorted(one.kinds) + ["top"]:
            self.assertEqual(seen.why_sure(one, wish, 9, place, True), seen.why_sure(other, dict(wish), 9, place, True))

    def test_lists_and_tuples_may_stand_for_one_another(self):
        tree = small_tree()
        one, other = meanings.Meaning(tree, False, ("a", "c")), meanings.Meaning(tree, False, ["a", "c"])
        self.assertEqual(one, other)
        self.assertEqual(meanings.middle((one, other)), (one, []))
        shut = trees.Tree((["s", "top", "shut", 1], ("i", "top", "item", 1)))
        self.assertEqual(showing.Counts(shut, {"s": [1, 2]}).on(meanings.Meaning(shut, True), "top"), (2, 3))
        table = dict.fromkeys(("on", "off", "part", "none"), "flip")
        self.assertEqual(showing.click(showing.Counts(tree), one, "a", table, ("c", "d")),
                         showing.click(showing.Counts(tree), one, "a", table, ["c", "d"]))
        self.assertEqual(texts.read(tree, ("none", "but a")), texts.read(tree, ["none", "but a"]))
        self.assertEqual(texts.listed(tree, ("+ a",)), texts.listed(tree, ["+ a"]))
        here = live.Live(one)
        here.add(["n", "top", "item", 1])
        self.assertEqual(here.meaning().tree.rows()[-1], ("n", "top", "item", 1))

    def test_a_call_that_raises_changes_nothing(self):
        tree = small_tree()
        meaning, counts = meanings.Meaning(tree, False, ["a"]), showing.Counts(tree)
        table, wish, lines = {"on": "flip"}, {"a": True, "c": 1}, ["none", "but a", "nope"]
        for work, *values in ((seen.sure, tree, wish, 1), (seen.why_sure, tree, wish, 1, "a"),
                              (seen.fewest_looks, tree, wish, 1), (showing.click, counts, meaning, "a", table),
                              (showing.unseen, counts, meaning, "a", table, ["c"]), (texts.read, tree, lines),
                              (texts.listed, tree, lines), (counts.on, meaning, "nope")):
            raised(work, *values)
        self.assertEqual((table, wish, lines), ({"on": "flip"}, {"a": True, "c": 1}, ["none", "but a", "nope"]))
        self.assertEqual((tree, meaning), (small_tree(), meanings.Meaning(small_tree(), False, ["a"])))
        self.assertEqual(counts.on(meaning, "top"), (2, 2))


if __name__ == "__main__":
    unittest.main()
