"""[5], [6], [7] and tree.steps of [22]: trees."""

import copy
import unittest

from samples import NO_PLACES, ROWS, raised, sample_tree, small_tree
from turnsets.errors import BadMove, BadRow, NoBox, NotShut
from turnsets.trees import Tree

GOOD = ("a", "top", "folder", 1)

# Each of these cannot stand behind GOOD.
BAD_ROWS = [
    None, True, 7, "abcd", "", {}, {"a": 1, "b": 2, "c": 3, "d": 4}, [], (), [[]],
    ("b",), ("b", "a", "item"), ("b", "a", "item", 1, 1), [("b", "a", "item", 1)],
    # the name
    ("", "top", "item", 1), ("top", "top", "item", 1), ("abcdefghi", "top", "item", 1), ("B", "top", "item", 1),
    ("bB", "top", "item", 1), ("b1", "top", "item", 1), ("b c", "top", "item", 1), ("b\n", "top", "item", 1),
    ("\u00e9", "top", "item", 1), ("\u00df", "top", "item", 1), ("b_", "top", "item", 1), (None, "top", "item", 1),
    (True, "top", "item", 1), (1, "top", "item", 1), (["b"], "top", "item", 1), (("b",), "top", "item", 1),
    ({"b": 1}, "top", "item", 1),
    # a name that stood before
    ("a", "top", "item", 1), ("a", "a", "item", 1), ("a", "top", "folder", 1),
    # the folder
    ("b", "b", "item", 1), ("b", "c", "item", 1), ("b", "", "item", 1), ("b", "Top", "item", 1),
    ("b", None, "item", 1), ("b", True, "item", 1), ("b", 0, "item", 1), ("b", ["a"], "item", 1),
    ("b", ("top",), "item", 1), ("b", {"a": 1}, "item", 1), ("b", [{}], "item", 1),
    # the kind
    ("b", "a", "Item", 1), ("b", "a", "", 1), ("b", "a", None, 1), ("b", "a", True, 1), ("b", "a", 1, 1),
    ("b", "a", ["item"], 1), ("b", "a", ("item",), 1), ("b", "a", {}, 1), ("b", "a", "top", 1),
    # the price
    ("b", "a", "item", 0), ("b", "a", "item", -1), ("b", "a", "item", True), ("b", "a", "item", False),
    ("b", "a", "item", "1"), ("b", "a", "item", ""), ("b", "a", "item", [1]), ("b", "a", "item", (1,)),
    ("b", "a", "item", {}), ("b", "a", "item", []),
]

NO_LISTS = [None, True, False, 0, 3, "", "abcd", {}, {0: GOOD}]


class Making(unittest.TestCase):

    def test_rows_are_told_as_tuples_in_order(self):
        self.assertEqual(sample_tree().rows(), ROWS)
        self.assertIs(type(sample_tree().rows()), list)
        for row in Tree([list(row) for row in ROWS]).rows():
            self.assertIs(type(row), tuple)

    def test_lists_and_tuples_make_the_same_tree(self):
        tree = sample_tree()
        self.assertEqual(Tree(tuple(ROWS)), tree)
        self.assertEqual(Tree([list(row) for row in ROWS]), tree)
        self.assertEqual(Tree(tuple([list(row) for row in ROWS])), tree)

    def test_what_was_passed_stays_and_may_change_later(self):
        rows = [list(row) for row in ROWS]
        kept = copy.deepcopy(rows)
        tree = Tree(rows)
        self.assertEqual(rows, kept)
        rows[0][0] = "z"
        rows[1][3] = 99
        rows.pop()
        self.assertEqual(tree.rows(), ROWS)
        self.assertEqual(tree.price("b"), 2)
        self.assertTrue("a" in tree)

    def test_what_was_returned_may_change_later(self):
        tree = sample_tree()
        for told in (tree.rows, lambda: tree.inside("top"), lambda: tree.below("top"), lambda: tree.way("d"),
                     lambda: tree.steps("d", "b")):
            first = told()
            kept = list(first)
            first.clear()
            self.assertEqual(told(), kept)

    def test_the_empty_tree(self):
        for rows in ([], ()):
            tree = Tree(rows)
            self.assertEqual(tree.rows(), [])
            self.assertEqual(len(tree), 0)
            self.assertEqual(tree.inside("top"), [])
            self.assertEqual(tree.below("top"), [])
            self.assertEqual(tree.way("top"), [])
            self.assertEqual(tree.steps("top", "top"), [])
            self.assertFalse("top" in tree)

    def test_the_edges_of_names_and_prices(self):
        rows = [("abcdefgh", "top", "folder", 1), ("z", "abcdefgh", "shut", None), ("to", "top", "item", 10 ** 6)]
        self.assertEqual(Tree(rows).rows(), rows)

    def test_a_tree_beyond_the_limits_is_no_error(self):
        names = ["a" + chr(97 + at // 26) + chr(97 + at % 26) for at in range(60)]
        rows = [(name, folder, "folder", 10 ** 7) for name, folder in zip(names, ["top"] + names)]
        tree = Tree(rows)
        self.assertEqual(len(tree), 60)
        self.assertEqual(tree.way(names[-1]), names)

    def test_a_box_may_lie_in_any_folder_ahead_of_it(self):
        rows = [("a", "top", "folder", 1), ("b", "top", "folder", 1), ("c", "a", "item", 1), ("d", "b", "item", 1)]
        self.assertEqual(Tree(rows).inside("a"), ["c"])


class BadRows(unittest.TestCase):

    def test_what_is_no_row(self):
        for bad in BAD_ROWS:
            error = raised(Tree, [GOOD, bad])
            self.assertIs(type(error), BadRow, bad)
            self.assertEqual(error.index, 1, bad)

    def test_all_but_one_name_and_folder_is_bad_at_the_front_too(self):
        for bad in BAD_ROWS:
            if isinstance(bad, tuple) and len(bad) == 4 and bad[0] == "a":
                continue
            self.assertEqual(raised(Tree, [bad]).index, 0, bad)

    def test_the_first_one_counts(self):
        self.assertEqual(raised(Tree, [GOOD, None, ("b",), GOOD]).index, 1)
        self.assertEqual(raised(Tree, [GOOD, ("b", "a", "item", 1), ("b", "a", "item", 1), None]).index, 2)

    def test_items_and_shut_folders_hold_nothing(self):
        for kind in ("item", "shut"):
            error = raised(Tree, [GOOD, ("b", "a", kind, 1), ("c", "b", "item", 1)])
            self.assertEqual(error.index, 2)

    def test_a_folder_stands_ahead(self):
        self.assertEqual(raised(Tree, [("b", "a", "item", 1), GOOD]).index, 0)

    def test_no_list(self):
        for rows in NO_LISTS:
            error = raised(Tree, rows)
            self.assertIs(type(error), BadRow)
            self.assertEqual(error.index, 0)


class Comparing(unittest.TestCase):

    def test_len(self):
        self.assertEqual(len(sample_tree()), 8)

    def test_in(self):
        tree = sample_tree()
        for row in ROWS:
            self.assertIs(row[0] in tree, True)
        self.assertIs("top" in tree, False)
        for thing in NO_PLACES:
            self.assertIs(thing in tree, False, thing)

    def test_equal_if_the_rows_are(self):
        self.assertTrue(sample_tree() == sample_tree())
        self.assertFalse(sample_tree() != sample_tree())
        for at in range(len(ROWS)):
            name, folder, kind, price = ROWS[at]
            other = ROWS[:at] + [(name, folder, kind, 77)] + ROWS[at + 1:]
            self.assertFalse(Tree(other) == sample_tree())
            self.assertTrue(Tree(other) != sample_tree())
        self.assertFalse(Tree(ROWS[:-1]) == sample_tree())

    def test_the_order_counts(self):
        one = [("a", "top", "item", 1), ("b", "top", "item", 1)]
        self.assertFalse(Tree(one) == Tree(one[::-1]))

    def test_a_tree_equals_nothing_else(self):
        for thing in [list(ROWS), tuple(ROWS), 8] + NO_PLACES:
            self.assertFalse(sample_tree() == thing)
            self.assertFalse(Tree([]) == thing)
            self.assertFalse(thing == Tree([]))


class Looking(unittest.TestCase):

    def setUp(self):
        self.tree = sample_tree()

    def test_folder_kind_and_price(self):
        for name, folder, kind, price in ROWS:
            self.assertEqual(self.tree.folder(name), folder)
            self.assertEqual(self.tree.kind(name), kind)
            self.assertEqual(self.tree.price(name), price)

    def test_inside(self):
        told = {"top": ["a", "x", "e"], "a": ["b", "c"], "b": [], "x": ["s"], "c": ["d", "f"], "d": [], "s": [],
                "e": [], "f": []}
        for box, boxes in told.items():
            self.assertEqual(self.tree.inside(box), boxes)

    def test_below(self):
        told = {"top": ["a", "b", "x", "c", "d", "s", "e", "f"], "a": ["b", "c", "d", "f"], "b": [], "x": ["s"],
                "c": ["d", "f"], "d": [], "s": [], "e": [], "f": []}
        for box, boxes in told.items():
            self.assertEqual(self.tree.below(box), boxes)

    def test_way(self):
        told = {"top": [], "a": ["a"], "b": ["a", "b"], "x": ["x"], "c": ["a", "c"], "d": ["a", "c", "d"],
                "s": ["x", "s"], "e": ["e"], "f": ["a", "c", "f"]}
        for box, boxes in told.items():
            self.assertEqual(self.tree.way(box), boxes)

    def test_way_goes_down_whatever_the_order_of_the_rows_is(self):
        tree = sample_tree().moved("a", "x")
        self.assertEqual(tree.way("d"), ["x", "a", "c", "d"])

    def test_steps(self):
        told = {("top", "top"): [], ("d", "d"): [], ("d", "top"): ["a", "c", "d"], ("top", "d"): ["a", "c", "d"],
                ("d", "f"): ["d", "f"], ("d", "a"): ["c", "d"], ("a", "d"): ["c", "d"], ("b", "d"): ["b", "c", "d"],
                ("s", "d"): ["a", "x", "c", "d", "s"], ("e", "top"): ["e"], ("x", "e"): ["x", "e"]}
        for (one, other), boxes in told.items():
            self.assertEqual(self.tree.steps(one, other), boxes)

    def test_steps_are_those_of_just_one_way_in_order(self):
        places = ["top"] + self.tree.below("top")
        for one in places:
            for other in places:
                just_one = set(self.tree.way(one)) ^ set(self.tree.way(other))
                self.assertEqual(self.tree.steps(one, other), [row[0] for row in ROWS if row[0] in just_one])

    def test_no_box(self):
        for thing in NO_PLACES:
            for work in (self.tree.folder, self.tree.kind, self.tree.price, self.tree.inside, self.tree.below,
                         self.tree.way, lambda box: self.tree.steps(box, "a"), lambda box: self.tree.steps("a", box),
                         lambda box: self.tree.steps(box, "nobox")):
                error = raised(work, thing)
                self.assertIs(type(error), NoBox)
                self.assertIs(error.box, thing)

    def test_the_top_is_no_box_where_it_is_not_let(self):
        for work in (self.tree.folder, self.tree.kind, self.tree.price):
            error = raised(work, "top")
            self.assertIs(type(error), NoBox)
            self.assertEqual(error.box, "top")


class Changing(unittest.TestCase):

    def setUp(self):
        self.tree = sample_tree()

    def tearDown(self):
        self.assertEqual(self.tree.rows(), ROWS)
        self.assertEqual(self.tree, sample_tree())
        self.assertEqual(self.tree.inside("a"), ["b", "c"])
        self.assertEqual(self.tree.kind("s"), "shut")

    def test_more(self):
        row = ["n", "c", "item", None]
        tree = self.tree.more(row)
        row[0] = "m"
        self.assertEqual(tree.rows(), ROWS + [("n", "c", "item", None)])
        self.assertEqual(tree.inside("c"), ["d", "f", "n"])
        self.assertEqual(Tree([]).more(GOOD), Tree([GOOD]))

    def test_more_bad_row(self):
        for bad in BAD_ROWS:
            error = raised(Tree([GOOD]).more, bad)
            self.assertIs(type(error), BadRow, bad)
            self.assertEqual(error.index, 1, bad)
        for bad in (ROWS[0], ("n", "s", "item", 1), ("n", "e", "item", 1), ("n", "zz", "item", 1), None):
            self.assertEqual(raised(self.tree.more, bad).index, 8)

    def test_less(self):
        self.assertEqual(self.tree.less("c").rows(), [row for row in ROWS if row[0] not in ("c", "d", "f")])
        self.assertEqual(self.tree.less("a").rows(), [row for row in ROWS if row[0] in ("x", "s", "e")])
        self.assertEqual(self.tree.less("e").rows(), [row for row in ROWS if row[0] != "e"])
        self.assertEqual(Tree([GOOD]).less("a"), Tree([]))

    def test_less_no_box(self):
        for thing in NO_PLACES + ["top"]:
            error = raised(self.tree.less, thing)
            self.assertIs(type(error), NoBox)
            self.assertIs(error.box, thing)

    def test_moved_puts_the_rows_at_the_end(self):
        self.assertEqual(self.tree.moved("a", "x").rows(), [
            ("x", "top", "folder", 3), ("s", "x", "shut", 5), ("e", "top", "item", 6), ("a", "x", "folder", 1),
            ("b", "a", "item", 2), ("c", "a", "folder", 4), ("d", "c", "item", None), ("f", "c", "shut", None)])
        self.assertEqual(self.tree.moved("d", "top").rows(), [row for row in ROWS if row[0] != "d"]
                         + [("d", "top", "item", None)])

    def test_moved_to_where_it_is(self):
        self.assertEqual(self.tree.moved("b", "a").rows(), [ROWS[0]] + ROWS[2:] + [ROWS[1]])
        self.assertEqual(self.tree.moved("f", "c"), self.tree)
        self.assertEqual(self.tree.moved("e", "top").rows(), ROWS[:6] + [ROWS[7], ROWS[6]])

    def test_moved_errors(self):
        for folder in ("b", "s", "e", "f", "c", "d", "a"):
            error = raised(self.tree.moved, "a", folder)
            self.assertIs(type(error), BadMove)
            self.assertEqual((error.box, error.into), ("a", folder))
        for box, folder in (("b", "b"), ("b", "e"), ("x", "x"), ("x", "s"), ("s", "s"), ("c", "d")):
            error = raised(self.tree.moved, box, folder)
            self.assertIs(type(error), BadMove)
            self.assertEqual((error.box, error.into), (box, folder))

    def test_moved_no_box(self):
        for thing in NO_PLACES:
            for work in (lambda: self.tree.moved(thing, "top"), lambda: self.tree.moved("a", thing),
                         lambda: self.tree.moved(thing, "b"), lambda: self.tree.moved(thing, "nobox")):
                error = raised(work)
                self.assertIs(type(error), NoBox)
                self.assertIs(error.box, thing)
        for folder in ("top", "a", "b", "nobox"):
            error = raised(self.tree.moved, "top", folder)
            self.assertIs(type(error), NoBox)
            self.assertEqual(error.box, "top")

    def test_moved_wherever_it_is_let(self):
        tree = small_tree()
        for box in tree.below("top"):
            for folder in ["top"] + tree.below("top"):
                if folder != "top" and (tree.kind(folder) != "folder" or box in tree.way(folder)):
                    self.assertIs(type(raised(tree.moved, box, folder)), BadMove)
                    continue
                moved = tree.moved(box, folder)
                self.assertEqual(moved.folder(box), folder)
                self.assertEqual(moved.below(box), tree.below(box))
                self.assertEqual(moved.below("top")[-1 - len(tree.below(box)):], [box] + tree.below(box))
                for other in tree.below("top"):
                    if other != box:
                        self.assertEqual(moved.folder(other), tree.folder(other))

    def test_opened(self):
        rows = [["n", "s", "folder", 1], ("m", "n", "item", None), ["o", "s", "shut", 2]]
        tree = self.tree.opened("s", rows)
        rows[0][0] = "q"
        rows.pop()
        self.assertEqual(tree.rows(), ROWS[:5] + [("s", "x", "folder", 5)] + ROWS[6:]
                         + [("n", "s", "folder", 1), ("m", "n", "item", None), ("o", "s", "shut", 2)])
        self.assertEqual(tree.inside("s"), ["n", "o"])

    def test_opened_by_no_rows(self):
        for rows in ([], ()):
            tree = self.tree.opened("f", rows)
            self.assertEqual(tree.rows(), ROWS[:7] + [("f", "c", "folder", None)])

    def test_opened_no_box(self):
        for thing in NO_PLACES + ["top"]:
            for rows in ([], None, [None]):
                error = raised(self.tree.opened, thing, rows)
                self.assertIs(type(error), NoBox)
                self.assertIs(error.box, thing)

    def test_opened_not_shut(self):
        for box in ("a", "b", "x", "c", "d", "e"):
            for rows in ([], None, [None]):
                error = raised(self.tree.opened, box, rows)
                self.assertIs(type(error), NotShut)
                self.assertEqual(error.box, box)

    def test_opened_bad_row(self):
        good = ("n", "s", "folder", 1)
        outside = [("m", "top", "item", 1), ("m", "x", "item", 1), ("m", "a", "item", 1), ("m", "f", "item", 1),
                   ("s", "s", "item", 1), ("x", "n", "item", 1), ("e", "s", "item", 1), ("n", "s", "item", 1),
                   ("m", "m", "item", 1), ("m", "o", "item", 1), ("m", "s", "item", 0)]
        for bad in outside + [row for row in BAD_ROWS if row != ("b", "a", "item", 1)]:
            error = raised(self.tree.opened, "s", [good, bad, None])
            self.assertIs(type(error), BadRow, bad)
            self.assertEqual(error.index, 1, bad)
        self.assertEqual(raised(self.tree.opened, "s", [("m", "n", "item", 1), good]).index, 0)

    def test_opened_holds_nothing_in_new_items_and_shut_folders(self):
        for kind in ("item", "shut"):
            self.assertEqual(raised(self.tree.opened, "s", [("n", "s", kind, 1), ("m", "n", "item", 1)]).index, 1)

    def test_opened_no_list(self):
        for rows in NO_LISTS:
            error = raised(self.tree.opened, "s", rows)
            self.assertIs(type(error), BadRow)
            self.assertEqual(error.index, 0)


if __name__ == "__main__":
    unittest.main()
