"""[35] to [37]: the lines of a meaning, and written lists."""

import random
import unittest

from samples import (NO_PLACES, all_meanings, places, raised, random_meaning, random_tree, sample_tree, small_tree,
                     within)
from turnsets.errors import BadLine, LockedTree
from turnsets.meanings import Meaning
from turnsets.texts import listed, read, write
from turnsets.trees import Tree

NO_LISTS = [None, True, False, 0, 7, "", "all", "none", "+ a", {}, {"all": 1}, {0: "all"}]


def all_targets(tree):
    """What may stand behind a sign."""
    ways = ["/".join(tree.way(box)) for box in places(tree)[1:]]
    return ["*", "**"] + ways + [way + "/*" for way in ways]


def told_list(tree, lines):
    """The values of a written list, told by doing its deeds one behind the other."""
    values = {place: False for place in places(tree)}
    for line in lines:
        goals = {"**": ["top"], "*": tree.inside("top")}
        for box in places(tree)[1:]:
            goals["/".join(tree.way(box))] = [box]
            goals["/".join(tree.way(box)) + "/*"] = tree.inside(box)
        for goal in goals[line[2:]]:
            for place in within(tree, goal):
                values[place] = line[0] == "+"
    return values


class WriteAndRead(unittest.TestCase):

    def test_examples(self):
        tree = sample_tree()
        self.assertEqual(write(Meaning(tree, True)), ["all"])
        self.assertEqual(write(Meaning(tree, False)), ["none"])
        self.assertEqual(write(Meaning(tree, False, ["s", "c", "b"])), ["none", "but a/b", "but a/c", "but x/s"])
        self.assertEqual(write(Meaning(tree, True, ["e", "a"])), ["all", "but a", "but e"])
        self.assertEqual(read(tree, ["all", "but a", "but e"]), Meaning(tree, True, ["a", "e"]))
        self.assertEqual(read(tree, ("none", "but a/c")), Meaning(tree, False, ["c"]))
        self.assertEqual(read(Tree([]), ["none"]), Meaning(Tree([]), False))

    def held(self, meaning):
        lines = write(meaning)
        self.assertIs(type(lines), list)
        self.assertEqual(lines, ["all" if meaning.default else "none"]
                         + ["but " + "/".join(meaning.tree.way(box)) for box in meaning.turns])
        again = read(meaning.tree, lines)
        self.assertIs(type(again), Meaning)
        self.assertEqual(again, meaning)
        self.assertEqual(read(meaning.tree, tuple(lines)), meaning)
        self.assertEqual(write(again), lines)

    def test_read_and_write_are_of_one_another(self):
        for tree in (small_tree(), sample_tree(), Tree([])):
            for meaning in all_meanings(tree):
                self.held(meaning)
        chance = random.Random(1)
        for at in range(100):
            self.held(random_meaning(chance, random_tree(chance, chance.randint(0, 40), 20)))

    def test_unlike_meanings_have_unlike_lines(self):
        texts = ["\n".join(write(meaning)) for meaning in all_meanings(sample_tree())]
        self.assertEqual(len(set(texts)), len(texts))

    def test_what_is_returned_is_new_and_what_is_passed_is_kept(self):
        meaning, lines = Meaning(small_tree(), True, ["c"]), ["all", "but a/b/c"]
        write(meaning).append("but e")
        self.assertEqual(write(meaning), lines)
        read(small_tree(), lines)
        self.assertEqual(lines, ["all", "but a/b/c"])

    def bad(self, lines, index, tree=None):
        for given in (lines, tuple(lines)):
            error = raised(read, sample_tree() if tree is None else tree, given)
            self.assertEqual((type(error), error.index), (BadLine, index))

    def test_no_list_or_no_line(self):
        for thing in NO_LISTS + [[], ()]:
            error = raised(read, sample_tree(), thing)
            self.assertEqual((type(error), error.index), (BadLine, 0))

    def test_the_first_line(self):
        for thing in NO_PLACES + ["top", "All", "all ", " none", "but a", "none\n", ["all"], ("none",), "allnone"]:
            self.bad([thing], 0)
            self.bad([thing, "but a"], 0)
            self.bad([thing, "nope"], 0)

    def test_other_lines(self):
        for thing in NO_PLACES + ["all", "none", "a", "but", "but ", "but top", "but nope", "but  a", "but a ",
                                  " but a", "But a", "but a/", "but /a", "but c", "but a/a", "but x/b", "but a/c/",
                                  "but top/a", "but a\n", "+ a", "but *", ["but a"], ("but", "a"), "but a/b/",
                                  "but a/c/c"]:
            self.bad(["all", thing], 1)
            self.bad(["none", "but a", thing, "nope"], 2)
            self.bad(["none", "but a", "but a/b", "but x", thing], 4)

    def test_locked_boxes(self):
        self.bad(["all", "but a/c/d"], 1)
        self.bad(["none", "but a", "but a/c/f"], 2)

    def test_the_order(self):
        self.bad(["all", "but a", "but a"], 2)
        self.bad(["all", "but a/b", "but a"], 2)
        self.bad(["all", "but x", "but a/c", "but x", "but x/s"], 3)
        self.bad(["all", "but a", "but x", "but a/b", "nope"], 3)
        self.bad(["none", "but e", "but e/e"], 2)
        # Behind c stand the rows of b, so by their names they are not in order.
        tree = Tree([("c", "top", "item", 1), ("b", "top", "item", 1)])
        self.assertEqual(read(tree, ["all", "but c", "but b"]).turns, ("c", "b"))
        self.bad(["all", "but b", "but c"], 2, tree)


class Listed(unittest.TestCase):

    def test_examples(self):
        tree = small_tree()
        self.assertEqual(listed(tree, []), Meaning(tree, False))
        self.assertEqual(listed(tree, ()), Meaning(tree, False))
        self.assertEqual(listed(tree, ["+ a"]), Meaning(tree, False, ["a"]))
        self.assertEqual(listed(tree, ["+ a", "- a/b"]), Meaning(tree, False, ["a", "b"]))
        self.assertEqual(listed(tree, ["+ a/*"]), Meaning(tree, False, ["b", "d"]))
        self.assertEqual(listed(tree, ["+ a", "- a/*"]), Meaning(tree, False, ["a", "b", "d"]))
        self.assertEqual(listed(tree, ["+ *"]), Meaning(tree, False, ["a", "e"]))
        self.assertEqual(listed(tree, ["+ **"]), Meaning(tree, True))
        self.assertEqual(listed(tree, ["+ **", "- *"]), Meaning(tree, True, ["a", "e"]))
        self.assertEqual(listed(tree, ["+ **", "- a/b/c", "- **"]), Meaning(tree, False))
        self.assertEqual(listed(tree, ["+ a/b/c/*", "+ e/*"]), Meaning(tree, False))
        self.assertEqual(listed(tree, ["+ a/b/*"]), Meaning(tree, False, ["c"]))
        self.assertEqual(listed(Tree([]), ["+ *"]), Meaning(Tree([]), False))
        self.assertEqual(listed(Tree([]), ["+ **"]), Meaning(Tree([]), True))
        shut = Tree([("s", "top", "shut", 1)])
        self.assertEqual(listed(shut, ["+ s/*"]), Meaning(shut, False))
        self.assertEqual(listed(shut, ["+ s"]), Meaning(shut, False, ["s"]))

    def held(self, tree, lines):
        meaning = listed(tree, lines)
        self.assertIs(type(meaning), Meaning)
        self.assertEqual((meaning.tree, meaning.states()), (tree, told_list(tree, lines)))
        self.assertEqual(listed(tree, tuple(lines)), meaning)

    def test_all_lists_of_two_lines(self):
        tree = small_tree()
        lines = [sign + " " + target for sign in "+-" for target in all_targets(tree)]
        for one in lines:
            self.held(tree, [one])
            for other in lines:
                self.held(tree, [one, other])

    def test_random_lists(self):
        chance = random.Random(2)
        for at in range(100):
            tree = random_tree(chance, chance.randint(0, 20))
            targets = all_targets(tree)
            many = chance.randint(0, 30)
            self.held(tree, [chance.choice("+-") + " " + chance.choice(targets) for line in range(many)])

    def test_lists_that_mean_the_same_are_written_the_same(self):
        tree = small_tree()
        for lines in (["+ a", "- a/d"], ["+ **", "- e", "- **", "+ a", "- a/d"], ["+ a/*", "- a/*", "+ a", "- a/d"]):
            self.assertEqual(write(listed(tree, lines)), ["none", "but a", "but a/d"])
        # All boxes are on by both of these, but newcomers to the top are not.
        self.assertNotEqual(write(listed(tree, ["+ *"])), write(listed(tree, ["+ **"])))
        self.assertNotEqual(write(listed(tree, ["+ a/b"])), write(listed(tree, ["+ a/b/*"])))

    def test_bad_lines(self):
        for thing in NO_PLACES + ["+", "-", "+ ", "- ", "+a", "+  a", "+ a ", " + a", "* a", "a", "all", "but a", "+ b",
                                  "+ nope", "+ top", "+ top/*", "+ a/", "+ /a", "+ a/**", "+ ***", "+ */*", "+ a*",
                                  "+ a/b*", "+ **/*", "+ /*", "+ a/*/c", "+- a", "+\ta", "+ a\n", "- a/e", ["+ a"],
                                  ("+", "a"), "+ a/*/*", "+ a/d/c", "- *a"]:
            for ahead in ([], ["+ a"], ["+ **", "- a/b/*"]):
                for lines in (ahead + [thing], tuple(ahead + [thing, "nope"])):
                    error = raised(listed, small_tree(), lines)
                    self.assertEqual((type(error), error.index), (BadLine, len(ahead)))

    def test_no_list(self):
        for thing in NO_LISTS:
            error = raised(listed, small_tree(), thing)
            self.assertEqual((type(error), error.index), (BadLine, 0))

    def test_locked_tree_ahead_of_all(self):
        for lines in ([], ["+ a"], ["nope"], None, {}):
            self.assertIs(type(raised(listed, sample_tree(), lines)), LockedTree)
            self.assertIs(type(raised(listed, Tree([("a", "top", "item", None)]), lines)), LockedTree)

    def test_what_is_passed_is_not_changed(self):
        lines = ["+ a", "- a/b"]
        listed(small_tree(), lines)
        self.assertEqual(lines, ["+ a", "- a/b"])


if __name__ == "__main__":
    unittest.main()
