"""[21] to [26], and the example [39]: the cheapest turns, and ways that show them."""

import random
import time
import unittest

from samples import (NO_PLACES, all_meanings, ends_of, example_tree, keeping, places, raised, random_tree, random_wish,
                     sample_tree, small_tree, told_ways)
from turnsets.cheap import Cheapest, cheapest, how_many, is_ways
from turnsets.errors import BadDefault, BadWish, Barred
from turnsets.meanings import Meaning
from turnsets.trees import Tree

DEFAULTS = (None, False, True)
NO_DEFAULTS = [0, 1, -1, "", "on", "top", [], [True], (), (False,), {}, {"top": True}]


def samples(seed, many, locked, most=9):
    """Small trees with all their meanings, and a wish and a default for each."""
    chance = random.Random(seed)
    for at in range(many):
        tree = random_tree(chance, chance.randint(0, 8), locked, most)
        meanings = all_meanings(tree)
        for share in (0.2, 0.5, 0.9):
            yield tree, meanings, random_wish(chance, tree, share), chance.choice(DEFAULTS)


class Found(unittest.TestCase):

    def shown(self, tree, wish, default, found):
        """Holds what can be seen of an answer without going through all meanings."""
        self.assertIs(type(found), Cheapest)
        for meaning in (found.wide, found.narrow):
            self.assertIs(type(meaning), Meaning)
            self.assertEqual(meaning.tree, tree)
            self.assertEqual(keeping([meaning], wish, default), [meaning])
            self.assertEqual(meaning.price(), found.cost)
        self.assertIs(type(found.ways), list)
        for way in found.ways:
            self.assertIs(type(way), tuple)
            self.assertEqual([type(part) for part in way], [int, str, str])
        self.assertTrue(told_ways(tree, wish, default, found.ways))
        self.assertEqual(sum(amount for amount, one, other in found.ways), found.cost)
        self.assertIs(is_ways(tree, wish, default, found.ways), True)

    def barred(self, tree, wish, default, error):
        """Holds the two of Barred against [23]."""
        self.assertIs(type(error), Barred)
        if default is not None and wish.get("top", default) != default:
            self.assertEqual((error.one, error.other), ("top", "top"))
            return
        ends = ends_of(wish, default)
        self.assertNotEqual(ends[error.one], ends[error.other])
        for box in tree.steps(error.one, error.other):
            self.assertIsNone(tree.price(box))

    def held(self, tree, meanings, wish, default):
        """Holds an answer against going through all meanings; returns whether there was one."""
        kept = keeping(meanings, wish, default)
        if not kept:
            self.barred(tree, wish, default, raised(cheapest, tree, wish, default))
            self.barred(tree, wish, default, raised(how_many, tree, wish, default))
            return False
        found = cheapest(tree, wish, default)
        cost = min(meaning.price() for meaning in kept)
        best = [meaning for meaning in kept if meaning.price() == cost]
        self.assertEqual(found.cost, cost)
        self.shown(tree, wish, default, found)
        for place in places(tree):
            self.assertIs(found.wide.value(place), any(meaning.value(place) for meaning in best))
            self.assertIs(found.narrow.value(place), all(meaning.value(place) for meaning in best))
        self.assertEqual(how_many(tree, wish, default), len(best))
        return True

    def test_all_wishes_of_a_small_tree(self):
        tree = Tree([("a", "top", "folder", 2), ("b", "a", "item", 1), ("c", "a", "item", 1), ("d", "top", "item", 1)])
        meanings = all_meanings(tree)
        for code in range(3 ** 5):
            wish = {place: (None, False, True)[code // 3 ** at % 3] for at, place in enumerate(places(tree))}
            wish = {place: value for place, value in wish.items() if value is not None}
            for default in DEFAULTS:
                self.held(tree, meanings, wish, default)

    def test_random_trees(self):
        for tree, meanings, wish, default in samples(1, 90, 0):
            self.assertEqual(self.held(tree, meanings, wish, default),
                             default is None or wish.get("top", default) == default)

    def test_random_trees_of_equal_prices(self):
        for tree, meanings, wish, default in samples(2, 90, 0, 2):
            self.held(tree, meanings, wish, default)

    def test_random_trees_with_locked_boxes(self):
        answers = [self.held(tree, meanings, wish, default) for tree, meanings, wish, default in samples(3, 120, 35, 4)]
        self.assertGreater(answers.count(True), 50)
        self.assertGreater(answers.count(False), 50)

    def test_random_trees_of_many_locked_boxes(self):
        answers = [self.held(tree, meanings, wish, default) for tree, meanings, wish, default in samples(4, 120, 70, 4)]
        self.assertGreater(answers.count(True), 50)
        self.assertGreater(answers.count(False), 50)

    def test_forty_boxes(self):
        chance, began = random.Random(5), time.monotonic()
        for at in range(60):
            tree = random_tree(chance, 40, 0, 10 ** 6)
            for share in (0.1, 0.5, 1):
                wish, default = random_wish(chance, tree, share), chance.choice(DEFAULTS)
                if default is not None:
                    wish.pop("top", None)
                self.shown(tree, wish, default, cheapest(tree, wish, default))
                self.assertGreaterEqual(how_many(tree, wish, default), 1)
        self.assertLess(time.monotonic() - began, 30)

    def test_forty_boxes_with_locked_ones(self):
        chance = random.Random(6)
        for at in range(60):
            tree = random_tree(chance, 40, 40, 10 ** 6)
            free = [row[0] for row in tree.rows() if row[3] is not None]
            kept = Meaning(tree, chance.random() < 0.5, [box for box in free if chance.random() < 0.5])
            wish = {place: kept.value(place) for place in places(tree) if chance.random() < 0.4}
            for default in (None, kept.default):
                self.shown(tree, wish, default, cheapest(tree, wish, default))
                self.assertLessEqual(cheapest(tree, wish, default).cost, kept.price())

    def test_sixteen_boxes_within_one_another(self):
        names = "abcdefghijklmnop"
        tree = Tree([(name, names[at - 1] if at else "top", "folder", 10 ** 6 - at) for at, name in enumerate(names)])
        found = cheapest(tree, {"p": True, "top": False})
        self.assertEqual((found.cost, found.wide.turns, found.ways), (10 ** 6 - 15, ("p",), [(10 ** 6 - 15, "p", "top")]))
        equal = Tree([row[:3] + (7,) for row in tree.rows()])
        found = cheapest(equal, {"p": True}, False)
        self.assertEqual((found.wide.turns, found.narrow.turns), (("a",), ("p",)))
        self.assertEqual(how_many(equal, {"p": True}, False), 16)

    def test_a_wish_of_nothing(self):
        for tree in (Tree([]), small_tree(), sample_tree()):
            for default in DEFAULTS:
                found = cheapest(tree, {}, default)
                self.assertEqual((found.cost, found.ways), (0, []))
                self.assertEqual(found.wide, Meaning(tree, default is not False))
                self.assertEqual(found.narrow, Meaning(tree, default is True))
                self.assertEqual(how_many(tree, {}, default), 2 if default is None else 1)

    def test_the_default_may_be_left_out(self):
        tree = small_tree()
        self.assertEqual(cheapest(tree, {"c": False, "e": True}).cost, cheapest(tree, {"c": False, "e": True}, None).cost)
        self.assertEqual(how_many(tree, {"top": True}), 1)

    def test_many_cheapest_meanings(self):
        rows = [("f" + chr(97 + at), "top", "folder", 3) for at in range(20)]
        rows += [("i" + chr(97 + at), "f" + chr(97 + at), "item", 3) for at in range(20)]
        wish = {"i" + chr(97 + at): True for at in range(20)}
        self.assertEqual(how_many(Tree(rows), wish, False), 2 ** 20)
        self.assertEqual(cheapest(Tree(rows), wish, False).cost, 60)
        self.assertEqual(how_many(Tree(rows), wish), 1)

    def test_what_is_returned_is_new_and_what_is_passed_is_kept(self):
        tree, wish = example_tree(), {"b": True, "c": True, "d": False}
        found = cheapest(tree, wish, False)
        ways = list(found.ways)
        self.assertEqual(list(wish.items()), [("b", True), ("c", True), ("d", False)])
        wish["b"] = False
        found.ways.clear()
        self.assertEqual(cheapest(tree, {"b": True, "c": True, "d": False}, False).ways, ways)
        given = [list(way) for way in ways]
        self.assertIs(is_ways(tree, {"b": True, "c": True, "d": False}, False, given), True)
        self.assertEqual(given, [list(way) for way in ways])


class Example(unittest.TestCase):

    def test_the_example(self):
        tree, wish = example_tree(), {"b": True, "c": True, "d": False}
        on, off, both = cheapest(tree, wish, True), cheapest(tree, wish, False), cheapest(tree, wish)
        self.assertEqual(on.cost, 1)
        self.assertEqual((on.wide, on.narrow), (Meaning(tree, True, ["d"]), Meaning(tree, True, ["d"])))
        self.assertEqual(off.cost, 2)
        self.assertEqual((off.wide, off.narrow), (Meaning(tree, False, ["a", "d"]), Meaning(tree, False, ["b", "c"])))
        self.assertEqual((both.cost, both.wide, both.narrow), (1, on.wide, on.narrow))
        self.assertEqual([how_many(tree, wish, default) for default in DEFAULTS], [1, 2, 1])
        self.assertIs(is_ways(tree, wish, False, [(1, "b", "top"), (1, "c", "d")]), True)
        self.assertEqual([amount for amount, one, other in off.ways], [1, 1])
        self.assertEqual(sorted(one for amount, one, other in off.ways), ["b", "c"])
        self.assertEqual(sorted(other for amount, one, other in off.ways), ["d", "top"])


class Bars(unittest.TestCase):

    def barred(self, tree, wish, default=None):
        error = raised(cheapest, tree, wish, default)
        self.assertIs(type(error), Barred)
        self.assertIs(type(raised(how_many, tree, wish, default)), Barred)
        return {error.one, error.other}

    def test_barred(self):
        tree = Tree([("a", "top", "folder", None), ("b", "a", "item", None), ("c", "a", "item", None),
                     ("d", "top", "folder", 1), ("e", "d", "item", None), ("f", "d", "item", 2)])
        self.assertEqual(self.barred(tree, {"b": True, "c": False}), {"b", "c"})
        self.assertEqual(self.barred(tree, {"f": True, "b": True, "top": False}), {"b", "top"})
        self.assertEqual(self.barred(tree, {"b": True, "d": False}, False), {"b", "top"})
        self.assertEqual(self.barred(tree, {"e": True, "d": False}), {"e", "d"})
        self.assertEqual(self.barred(tree, {"a": True, "e": False}, False), {"a", "top"})
        self.assertEqual(cheapest(tree, {"a": True, "e": False, "f": True}).cost, 3)

    def test_the_top_with_itself(self):
        for tree in (Tree([]), small_tree(), sample_tree()):
            for value in (False, True):
                error = raised(cheapest, tree, {"top": value}, not value)
                self.assertEqual((type(error), error.one, error.other), (Barred, "top", "top"))
                error = raised(how_many, tree, {"top": value}, not value)
                self.assertEqual((type(error), error.one, error.other), (Barred, "top", "top"))
                self.assertEqual(cheapest(tree, {"top": value}, value).cost, 0)

    def test_locked_steps_of_one_value_bar_nothing(self):
        tree = Tree([("a", "top", "folder", None), ("b", "a", "item", None), ("c", "a", "item", 4)])
        self.assertEqual(cheapest(tree, {"b": True, "a": True, "c": False}, True).wide, Meaning(tree, True, ["c"]))
        self.assertEqual(cheapest(tree, {"b": True, "c": False}).ways, [(4, "b", "c")])


class WrongArguments(unittest.TestCase):

    def calls(self, tree, wish, default):
        return [(cheapest, tree, wish, default), (how_many, tree, wish, default),
                (is_ways, tree, wish, default, []), (is_ways, tree, wish, default, None)]

    def test_bad_wish(self):
        keys = [thing for thing in NO_PLACES if not isinstance(thing, (list, dict))] + [("top",), 7, (1, (2, "a"))]
        for key in keys:
            try:
                hash(key)
            except TypeError:
                continue
            for wish in ({key: True}, {"a": True, key: False, "nope": True}, {key: None, "e": 1}):
                for default in (None, True, "on"):
                    for work, *values in self.calls(small_tree(), wish, default):
                        error = raised(work, *values)
                        self.assertIs(type(error), BadWish)
                        self.assertIs(error.box, key)

    def test_a_wish_that_is_no_truth(self):
        for value in (None, 0, 1, "on", "", [], [True], (True,), {}, {"a": True}):
            for wish, box in (({"a": value}, "a"), ({"top": value}, "top"), ({"e": True, "c": value, "nope": True}, "c"),
                              ({"nope": value}, "nope")):
                for default in (None, False, 7):
                    for work, *values in self.calls(small_tree(), wish, default):
                        error = raised(work, *values)
                        self.assertIs(type(error), BadWish)
                        self.assertEqual(error.box, box)

    def test_bad_default(self):
        barred = {"top": True, "d": False, "c": True}
        for default in NO_DEFAULTS:
            for wish in ({}, {"a": True}, barred):
                for work, *values in self.calls(sample_tree(), wish, default):
                    self.assertIs(type(raised(work, *values)), BadDefault)

    def test_bad_wish_and_bad_default_ahead_of_barred(self):
        tree = sample_tree()
        self.assertIs(type(raised(cheapest, tree, {"top": True, "d": True, "c": False, "nope": True}, False)), BadWish)
        self.assertIs(type(raised(cheapest, tree, {"d": True, "c": False}, 1)), BadDefault)
        self.assertIs(type(raised(cheapest, tree, {"d": True, "c": False}, True)), Barred)


class Ways(unittest.TestCase):

    def setUp(self):
        self.tree = Tree([("a", "top", "folder", 3), ("b", "a", "item", 2), ("c", "a", "item", 4),
                          ("d", "top", "folder", None), ("e", "d", "item", None), ("f", "d", "item", 5)])
        self.wish = {"b": True, "c": False, "f": True, "e": False}

    def held(self, told, thing, default=None):
        self.assertIs(is_ways(self.tree, self.wish, default, thing), told)

    def test_ways(self):
        for thing in ([], (), [(1, "b", "c")], ((2, "b", "c"),), [[2, "b", "c"]], [(5, "f", "e")], ([3, "f", "c"],),
                      [(1, "b", "c"), (1, "b", "c")], [(1, "b", "c"), (1, "b", "e"), (3, "f", "e"), (2, "f", "c")]):
            self.held(True, thing)

    def test_beyond_the_price(self):
        for thing in ([(3, "b", "c")], [(1, "b", "c"), (2, "b", "c")], [(2, "b", "c"), (1, "b", "e")], [(6, "f", "e")],
                      [(2, "b", "e"), (2, "f", "c")], [(4, "f", "c")], [(10 ** 30, "b", "c")]):
            self.held(False, thing)

    def test_a_locked_step_bears_any_amount(self):
        tree = Tree([("a", "top", "folder", None), ("b", "a", "item", None), ("c", "a", "item", 1)])
        self.assertIs(is_ways(tree, {"b": True}, False, [(10 ** 9, "b", "top"), (10 ** 12, "b", "top")]), True)
        self.assertIs(is_ways(tree, {"b": True, "c": False}, False, [(10 ** 9, "b", "top"), (1, "b", "c")]), True)
        self.assertIs(is_ways(tree, {"b": True, "c": False}, False, [(10 ** 9, "b", "top"), (2, "b", "c")]), False)

    def test_the_ends(self):
        for thing in ([(1, "c", "b")], [(1, "b", "f")], [(1, "c", "e")], [(1, "b", "b")], [(1, "a", "c")],
                      [(1, "b", "a")], [(1, "b", "top")], [(1, "top", "c")], [(1, "b", "nope")]):
            self.held(False, thing)

    def test_the_top(self):
        self.held(True, [(2, "b", "top")], False)
        self.held(False, [(2, "b", "top")], True)
        self.held(True, [(3, "top", "c")], True)
        self.held(False, [(3, "top", "c")], False)
        for value in (False, True):
            wish = {"top": value, "b": True, "c": False}
            for default, told in ((None, value), (False, False), (True, True)):
                self.assertIs(is_ways(self.tree, wish, default, [(1, "b", "top")]), not told)
                self.assertIs(is_ways(self.tree, wish, default, [(1, "top", "c")]), told)

    def test_amounts(self):
        for amount in (0, -1, True, False, None, "1", [1], (1,), {}, {1: 1}):
            self.held(False, [(amount, "b", "c")])
            self.held(False, [(1, "b", "c"), [amount, "b", "c"]])

    def test_any_objects(self):
        good = (1, "b", "c")
        for thing in NO_PLACES + ["bc", "1bc", ["1bc"], {1: good}, {good: True}, {"b": "c"}, good, [good, None],
                                  [good, ()], [good, (1, "b")], [(1, "b", "c", "c")], [good, {1: 1, 2: 2, 3: 3}],
                                  [[good]], [good, [good]], [(1, ["b"], "c")], [(1, "b", ["c"])], [(1, {}, {})],
                                  [(1, None, None)], [(1, True, False)], [(1, ("b",), "c")], [("b", "c", 1)], "top"]:
            told = isinstance(thing, (list, tuple)) and len(thing) == 0
            self.held(told, thing)
            self.held(told, thing, True)

    def test_random_lists(self):
        chance = random.Random(7)
        seen = []
        for at in range(400):
            tree = random_tree(chance, chance.randint(1, 7), 30)
            wish, default = random_wish(chance, tree, 0.7), chance.choice(DEFAULTS)
            ends = ends_of(wish, default)
            ons = [place for place in ends if ends[place]]
            offs = [place for place in ends if not ends[place]]
            if ons and offs:
                ways = [(chance.randint(1, 4), chance.choice(ons), chance.choice(offs))
                        for way in range(chance.randint(1, 3))]
                seen.append(is_ways(tree, wish, default, ways))
                self.assertIs(seen[-1], told_ways(tree, wish, default, ways))
        self.assertGreater(seen.count(True), 30)
        self.assertGreater(seen.count(False), 30)

    def test_no_meaning_costs_less_than_the_ways(self):
        meanings = keeping(all_meanings(self.tree), {"b": True, "c": False}, None)
        self.assertEqual(is_ways(self.tree, {"b": True, "c": False}, None, [(2, "b", "c")]), True)
        self.assertEqual(min(meaning.price() for meaning in meanings), 2)

    def test_barred_wishes_may_have_ways(self):
        self.assertIs(is_ways(self.tree, {"d": True, "e": False}, None, [(10 ** 9, "d", "e")]), True)
        self.assertIs(is_ways(self.tree, {"top": True, "b": False}, False, []), True)


if __name__ == "__main__":
    unittest.main()
