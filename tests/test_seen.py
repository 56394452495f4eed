"""[27] to [29], and the example [39] with what is sure: what seen boxes tell of the others."""

import random
import time
import unittest
from itertools import combinations

from samples import (NO_PLACES, all_meanings, ends_of, example_tree, keeping, places, raised, random_meaning,
                     random_tree, random_wish, sample_tree, small_tree, told_ways)
from turnsets.cheap import cheapest, is_ways
from turnsets.errors import BadDefault, BadNumber, BadWish, Barred, NoBox, TooDear
from turnsets.meanings import Meaning
from turnsets.seen import fewest_looks, sure, why_sure
from turnsets.trees import Tree

DEFAULTS = (None, False, True)
NO_NUMBERS = [None, True, False, -1, -10 ** 9, "", "0", "top", [], [1], (), (1,), {}, {1: 1}]


def calls(tree, seen, most, default, box="top"):
    return [(sure, tree, seen, most, default), (why_sure, tree, seen, most, box, default),
            (fewest_looks, tree, seen, most, default)]


def told_sure(tree, kept):
    """The dict of [27], told by going through the meanings."""
    values = {place: {meaning.value(place) for meaning in kept} for place in places(tree)}
    return {place: None if len(both) == 2 else both == {True} for place, both in values.items()}


def told_looks(tree, kept):
    """The list of [29], told by trying all choices of all numbers of places."""
    names = places(tree)
    for many in range(len(names) + 1):
        found = [choice for choice in combinations(names, many)
                 if len({tuple(meaning.value(place) for place in choice) for meaning in kept}) == len(kept)]
        if found:
            return found
    raise AssertionError("all places together tell all")


def samples(seed, many, locked, most=9, largest=7):
    chance = random.Random(seed)
    for at in range(many):
        tree = random_tree(chance, chance.randint(0, largest), locked, most)
        meanings = all_meanings(tree)
        for share in (0.1, 0.4, 0.8):
            seen, default = random_wish(chance, tree, share), chance.choice(DEFAULTS)
            kept = keeping(meanings, seen, default)
            cost = min([meaning.price() for meaning in kept], default=0)
            more = chance.choice([-1, 0, chance.randint(1, 2 * most)])
            yield tree, kept, seen, max(0, cost + more), default


class Against(unittest.TestCase):
    """Answers held against going through all sets of turns and both defaults."""

    def reason(self, tree, seen, most, default, place, value):
        """Holds what why_sure tells of a place against [28]; value is the one that is sure, or None."""
        why, ends = why_sure(tree, seen, most, place, default), ends_of(seen, default)
        if value is None:
            self.assertIsNone(why)
            return
        if place in ends:
            self.assertEqual(why, (place, place))
            self.assertIs(type(why), tuple)
            return
        wish = {**seen, place: not value}
        if type(why) is tuple:
            one, other = why
            self.assertNotEqual({**ends, place: not value}[one], {**ends, place: not value}[other])
            self.assertEqual([tree.price(box) for box in tree.steps(one, other) if tree.price(box) is not None], [])
            self.assertIs(type(raised(cheapest, tree, wish, default)), Barred)
            return
        self.assertIs(type(why), list)
        self.assertTrue(told_ways(tree, wish, default, why))
        self.assertIs(is_ways(tree, wish, default, why), True)
        self.assertGreater(sum(amount for amount, one, other in why), most)

    def wrong(self, tree, kept, seen, most, default):
        """Holds the errors where no meaning is within the price."""
        for work, *values in calls(tree, seen, most, default):
            error = raised(work, *values)
            if kept:
                self.assertIs(type(error), TooDear)
                self.assertEqual(error.cost, min(meaning.price() for meaning in kept))
            else:
                self.assertIs(type(error), Barred)
        for work, *values in calls(tree, seen, most, default, "nope"):
            self.assertIn(type(raised(work, *values)), (TooDear, Barred))

    def held(self, tree, kept, seen, most, default):
        within = [meaning for meaning in kept if meaning.price() <= most]
        if not within:
            self.wrong(tree, kept, seen, most, default)
            return "dear" if kept else "barred"
        told = told_sure(tree, within)
        answer = sure(tree, seen, most, default)
        self.assertEqual(list(answer.items()), list(told.items()))
        self.assertEqual([type(value) for value in answer.values()], [type(value) for value in told.values()])
        for place in places(tree):
            self.reason(tree, seen, most, default, place, told[place])
        self.assertEqual(fewest_looks(tree, seen, most, default), told_looks(tree, within))
        return "told"

    def test_all_wishes_of_a_small_tree(self):
        tree = Tree([("a", "top", "folder", 2), ("b", "a", "item", 1), ("c", "a", "item", None),
                     ("d", "top", "item", 1)])
        meanings = all_meanings(tree)
        for code in range(3 ** 5):
            seen = {place: (None, False, True)[code // 3 ** at % 3] for at, place in enumerate(places(tree))}
            seen = {place: value for place, value in seen.items() if value is not None}
            for default in DEFAULTS:
                kept = keeping(meanings, seen, default)
                for most in (0, 1, 2, 4):
                    self.held(tree, kept, seen, most, default)

    def test_random_trees(self):
        answers = [self.held(*sample) for sample in samples(1, 100, 0)]
        self.assertGreater(answers.count("told"), 150)
        self.assertGreater(answers.count("dear"), 10)

    def test_random_trees_of_equal_prices(self):
        for sample in samples(2, 80, 0, 1):
            self.held(*sample)

    def test_random_trees_with_locked_boxes(self):
        answers = [self.held(*sample) for sample in samples(3, 120, 35, 3)]
        for answer in ("told", "dear", "barred"):
            self.assertGreater(answers.count(answer), 10, answer)

    def test_random_trees_of_many_locked_boxes(self):
        answers = [self.held(*sample) for sample in samples(4, 80, 75, 3)]
        self.assertGreater(answers.count("told"), 50)
        self.assertGreater(answers.count("barred"), 50)

    def test_nine_boxes(self):
        for sample in samples(5, 4, 20, 2, 9):
            self.held(*sample)


class Example(unittest.TestCase):

    def setUp(self):
        self.tree, self.seen = example_tree(), {"b": True, "c": True, "d": False}

    def test_the_default_on(self):
        told = {"top": True, "a": True, "b": True, "c": True, "d": False}
        self.assertEqual(sure(self.tree, self.seen, 1, True), told)
        self.assertEqual(sure(self.tree, self.seen, 1), told)
        for default in (True, None):
            ways = why_sure(self.tree, self.seen, 1, "a", default)
            self.assertGreater(sum(way[0] for way in ways), 1)
            self.assertIs(is_ways(self.tree, {**self.seen, "a": False}, default, ways), True)
        self.assertEqual(why_sure(self.tree, self.seen, 1, "top", True), ("top", "top"))
        self.assertIs(is_ways(self.tree, {**self.seen, "top": False}, None, why_sure(self.tree, self.seen, 1, "top")),
                      True)
        self.assertEqual(why_sure(self.tree, self.seen, 1, "d", True), ("d", "d"))

    def test_the_default_off(self):
        self.assertEqual(sure(self.tree, self.seen, 2, False),
                         {"top": False, "a": None, "b": True, "c": True, "d": False})
        self.assertIsNone(why_sure(self.tree, self.seen, 2, "a", False))
        for work, *values in calls(self.tree, self.seen, 1, False):
            error = raised(work, *values)
            self.assertEqual((type(error), error.cost), (TooDear, 2))
        self.assertEqual(fewest_looks(self.tree, self.seen, 2, False), [("a",)])

    def test_both_defaults(self):
        self.assertEqual(sure(self.tree, self.seen, 2), {"top": None, "a": None, "b": True, "c": True, "d": False})
        self.assertEqual(fewest_looks(self.tree, self.seen, 1), [()])
        self.assertEqual(fewest_looks(self.tree, self.seen, 2), [("top", "a")])


class Sure(unittest.TestCase):

    def test_nothing_seen_and_nothing_paid(self):
        for tree in (Tree([]), small_tree(), sample_tree()):
            self.assertEqual(sure(tree, {}, 0), {place: None for place in places(tree)})
            for default in (False, True):
                self.assertEqual(sure(tree, {}, 0, default), {place: default for place in places(tree)})

    def test_locked_boxes_are_as_their_folders(self):
        tree = Tree([("a", "top", "folder", 1), ("b", "a", "item", None), ("c", "a", "item", 1)])
        self.assertEqual(sure(tree, {"a": True}, 10 ** 9), {"top": None, "a": True, "b": True, "c": None})
        self.assertEqual(set(why_sure(tree, {"a": True}, 10 ** 9, "b")), {"a", "b"})
        self.assertEqual(set(why_sure(tree, {"b": False}, 10 ** 9, "a")), {"a", "b"})
        self.assertIsNone(why_sure(tree, {"b": False}, 10 ** 9, "c"))

    def test_what_a_price_tells(self):
        tree = Tree([("a", "top", "folder", 5), ("b", "a", "item", 2)])
        self.assertEqual(sure(tree, {"top": False, "b": True}, 2), {"top": False, "a": False, "b": True})
        self.assertEqual(sure(tree, {"top": False, "b": True}, 4), {"top": False, "a": False, "b": True})
        self.assertEqual(sure(tree, {"top": False, "b": True}, 5), {"top": False, "a": None, "b": True})
        self.assertEqual(why_sure(tree, {"top": False, "b": True}, 4, "a"), [(5, "a", "top")])
        self.assertIsNone(why_sure(tree, {"top": False, "b": True}, 5, "a"))

    def test_what_is_seen_is_shown_by_itself(self):
        tree = small_tree()
        for default in (None, True):
            for box in ("c", "top"):
                self.assertEqual(why_sure(tree, {"c": True, "top": True}, 0, box, default), (box, box))
        self.assertEqual(why_sure(tree, {}, 10 ** 9, "top", False), ("top", "top"))
        self.assertIsNone(why_sure(tree, {}, 10 ** 9, "top"))

    def test_forty_boxes(self):
        chance, began = random.Random(6), time.monotonic()
        for at in range(12):
            tree = random_tree(chance, 40, 15, 10 ** 6)
            kept = random_meaning(chance, tree)
            seen = {place: kept.value(place) for place in places(tree) if chance.random() < 0.6}
            most = (cheapest(tree, seen).cost + kept.price()) // 2
            told, seen_sure = sure(tree, seen, most), 0
            for place in places(tree):
                for value in (False, True):
                    if seen.get(place, value) == value and told[place] in (None, value):
                        self.assertLessEqual(cheapest(tree, {**seen, place: value}).cost, most)
                if told[place] is not None and place not in seen:
                    why = why_sure(tree, seen, most, place)
                    seen_sure += 1
                    if type(why) is list:
                        self.assertTrue(told_ways(tree, {**seen, place: not told[place]}, None, why))
                        self.assertGreater(sum(way[0] for way in why), most)
                    else:
                        self.assertEqual({tree.price(box) for box in tree.steps(*why)}, {None})
            self.assertGreater(seen_sure, 0)
        self.assertLess(time.monotonic() - began, 30)


class Looks(unittest.TestCase):

    def test_examples(self):
        tree = Tree([("a", "top", "folder", 1), ("b", "a", "item", None), ("c", "top", "item", 1)])
        self.assertEqual(fewest_looks(tree, {}, 0, True), [()])
        self.assertEqual(fewest_looks(tree, {}, 0), [("top",), ("a",), ("b",), ("c",)])
        self.assertEqual(fewest_looks(tree, {}, 9, True), [("a", "c"), ("b", "c")])
        self.assertEqual(fewest_looks(tree, {}, 1, True), [("a", "c"), ("b", "c")])
        self.assertEqual(fewest_looks(tree, {}, 9), [("top", "a", "c"), ("top", "b", "c")])
        self.assertEqual(fewest_looks(tree, {"c": True}, 1), [("top", "a"), ("top", "b")])
        self.assertEqual(fewest_looks(Tree([]), {}, 0), [("top",)])
        self.assertEqual(fewest_looks(Tree([]), {}, 0, False), [()])

    def test_form(self):
        looks = fewest_looks(small_tree(), {"c": True}, 2)
        self.assertIs(type(looks), list)
        self.assertEqual({type(choice) for choice in looks}, {tuple})
        looks.clear()
        self.assertNotEqual(fewest_looks(small_tree(), {"c": True}, 2), [])

    def test_the_order_is_that_of_the_tree(self):
        tree = Tree([("z", "top", "folder", 1), ("y", "z", "item", None), ("b", "top", "folder", 1),
                     ("a", "b", "item", None)])
        self.assertEqual(fewest_looks(tree, {"top": True}, 2), [("z", "b"), ("z", "a"), ("y", "b"), ("y", "a")])

    def test_nine_boxes_in_time(self):
        chance, began = random.Random(7), time.monotonic()
        for at in range(10):
            tree = random_tree(chance, 9, 0, 9)
            for most in (0, 4, 9, 20, 10 ** 9):
                self.assertNotEqual(fewest_looks(tree, {}, most), [])
        self.assertLess(time.monotonic() - began, 30)


class WrongArguments(unittest.TestCase):

    def test_bad_wish_ahead_of_all(self):
        for seen, box in (({"nope": True}, "nope"), ({"a": True, "c": 1, "nope": True}, "c"), ({None: True}, None),
                          ({"d": True, "c": False, ("a",): True}, ("a",)), ({"top": None}, "top"), ({"e": []}, "e")):
            for most in (0, None, -1):
                for default in (None, True, "on"):
                    for work, *values in calls(sample_tree(), seen, most, default, "nope"):
                        error = raised(work, *values)
                        self.assertEqual((type(error), error.box), (BadWish, box))

    def test_bad_default_ahead_of_bad_number(self):
        for default in (0, 1, "", "on", [], (True,), {}):
            for seen in ({}, {"a": True}, {"d": True, "c": False}):
                for most in (0, None, True):
                    for work, *values in calls(sample_tree(), seen, most, default, "nope"):
                        self.assertIs(type(raised(work, *values)), BadDefault)

    def test_bad_number_ahead_of_barred(self):
        for number in NO_NUMBERS:
            for seen, default in (({}, None), ({"d": True, "c": False}, None), ({"top": True}, False),
                                  ({"e": True}, False)):
                for work, *values in calls(sample_tree(), seen, number, default, "nope"):
                    error = raised(work, *values)
                    self.assertIs(type(error), BadNumber)
                    self.assertIs(error.number, number)

    def test_barred_ahead_of_too_dear(self):
        tree = sample_tree()
        for seen, default, both in (({"d": True, "c": False, "e": True}, False, {"d", "c"}),
                                    ({"top": True, "e": False}, False, {"top"}),
                                    ({"f": False, "d": True}, None, {"d", "f"})):
            for work, *values in calls(tree, seen, 0, default, "nope"):
                error = raised(work, *values)
                self.assertEqual((type(error), {error.one, error.other}), (Barred, both))

    def test_too_dear(self):
        tree = sample_tree()
        for most in (0, 5):
            for work, *values in calls(tree, {"e": True}, most, False, "nope"):
                error = raised(work, *values)
                self.assertEqual((type(error), error.cost), (TooDear, 6))
        self.assertEqual(sure(tree, {"e": True}, 6, False)["e"], True)

    def test_no_box_behind_all_others(self):
        tree = sample_tree()
        for thing in NO_PLACES:
            for seen, most in (({}, 0), ({"e": True}, 6)):
                error = raised(why_sure, tree, seen, most, thing, False)
                self.assertIs(type(error), NoBox)
                self.assertIs(error.box, thing)
        self.assertEqual(why_sure(tree, {}, 0, "top", False), ("top", "top"))

    def test_what_is_passed_is_not_changed(self):
        tree, seen = small_tree(), {"c": True, "d": False}
        for work, *values in calls(tree, seen, 20, None, "a"):
            work(*values)
        self.assertEqual(list(seen.items()), [("c", True), ("d", False)])
        self.assertEqual(tree, small_tree())
        told = sure(tree, seen, 20)
        told.clear()
        self.assertEqual(len(sure(tree, seen, 20)), 6)
        self.assertEqual(Meaning(tree, True), Meaning(small_tree(), True))


if __name__ == "__main__":
    unittest.main()
