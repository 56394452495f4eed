"""[19] and [20]: moves."""

import random
import unittest

from samples import (NO_PLACES, all_meanings, places, raised, random_meaning, random_tree, sample_tree, small_tree,
                     within)
from turnsets.errors import BadMove, BadRule, BoxError, Locked, NoBox
from turnsets.meanings import Meaning
from turnsets.moving import back, moved, unlike_moves
from turnsets.trees import Tree

RULES = ["told", "turned", "meant"]
NO_RULES = NO_PLACES + ["top", "a", "TOLD", "told ", "mean", ["told"], ("meant",), {"told": "told"}]


def told_value(meaning, box, folder, rule):
    """The value that the box has behind the move, by the words of [19]."""
    around = meaning.value(folder)
    if rule == "meant" or (rule == "told" and box in meaning.turns):
        return meaning.value(box)
    return around != (box in meaning.turns)


def told_moved(meaning, box, folder, rule):
    """The values of all behind the move: those below the box keep their turns."""
    values = meaning.states()
    other = told_value(meaning, box, folder, rule) != values[box]
    for place in within(meaning.tree, box):
        values[place] = values[place] != other
    return values


def let(tree, box):
    """The places to which tree.moved lets the box be moved."""
    found = []
    for place in places(tree):
        try:
            tree.moved(box, place)
            found.append(place)
        except BoxError:
            pass
    return found


def told_unlike(meaning, rule, other):
    """The pairs of [20], found by doing all moves by both rules."""
    pairs = []
    for box in places(meaning.tree)[1:]:
        for folder in let(meaning.tree, box):
            try:
                one, two = moved(meaning, box, folder, rule), moved(meaning, box, folder, other)
            except Locked:
                continue
            if one.states() != two.states():
                pairs.append((box, folder))
    return pairs


def random_meanings(seed, many, locked):
    chance = random.Random(seed)
    for at in range(many):
        yield random_meaning(chance, random_tree(chance, chance.randint(1, 12), locked))


class Moved(unittest.TestCase):

    def held(self, meaning, box, folder, rule):
        """Holds a move against the words of [19]."""
        values = told_moved(meaning, box, folder, rule)
        needs = values[box] != values[folder]
        if needs and meaning.tree.price(box) is None:
            error = raised(moved, meaning, box, folder, rule)
            self.assertIs(type(error), Locked)
            self.assertEqual(error.box, box)
            return
        behind = moved(meaning, box, folder, rule)
        self.assertIs(type(behind), Meaning)
        self.assertEqual(behind.tree, meaning.tree.moved(box, folder))
        self.assertIs(behind.default, meaning.default)
        self.assertEqual(behind.states(), values)
        turned = {turn: True for turn in meaning.turns if turn != box}
        if needs:
            turned[box] = True
        self.assertEqual(sorted(behind.turns), sorted(turned))

    def test_all_meanings_of_a_small_tree(self):
        for meaning in all_meanings(small_tree()):
            for box in places(meaning.tree)[1:]:
                for folder in let(meaning.tree, box):
                    for rule in RULES:
                        self.held(meaning, box, folder, rule)

    def test_random_trees_with_locked_boxes(self):
        for meaning in random_meanings(1, 60, 30):
            for box in places(meaning.tree)[1:]:
                for folder in let(meaning.tree, box):
                    for rule in RULES:
                        self.held(meaning, box, folder, rule)

    def test_the_rules(self):
        tree = small_tree()
        on, off = Meaning(tree, False, ["a"]), Meaning(tree, False, ["a", "c", "e"])
        # Without a turn, into a folder of the other value.
        self.assertEqual(moved(on, "c", "top", "told").turns, ("a",))
        self.assertEqual(moved(on, "c", "top", "turned").turns, ("a",))
        self.assertEqual(moved(on, "c", "top", "meant").turns, ("a", "c"))
        # Turned, into a folder of its own value.
        self.assertEqual(moved(off, "c", "top", "told").turns, ("a", "e"))
        self.assertEqual(moved(off, "c", "top", "turned").turns, ("a", "e", "c"))
        self.assertEqual(moved(off, "c", "top", "meant").turns, ("a", "e"))
        # Turned, into a folder of the other value.
        self.assertEqual(moved(off, "e", "b", "told").turns, ("a", "c"))
        self.assertEqual(moved(off, "e", "b", "turned").turns, ("a", "c", "e"))
        self.assertEqual(moved(off, "e", "b", "meant").turns, ("a", "c"))
        # Turned, into another folder of the same value as its own.
        self.assertEqual(moved(off, "c", "a", "told").turns, ("a", "e", "c"))
        self.assertEqual(moved(off, "c", "a", "turned").turns, ("a", "e", "c"))
        self.assertEqual(moved(off, "c", "a", "meant").turns, ("a", "e", "c"))

    def test_turns_below_the_box_stay(self):
        meaning = Meaning(small_tree(), True, ["a", "c"])
        for rule in RULES:
            self.assertIn("c", moved(meaning, "b", "top", rule).turns)
        self.assertEqual(moved(meaning, "b", "top", "told").states()["c"], False)
        self.assertEqual(moved(meaning, "b", "top", "meant").states()["c"], True)

    def test_locked(self):
        tree = Tree([("a", "top", "folder", 1), ("b", "a", "item", None), ("c", "top", "folder", None),
                     ("d", "c", "item", 1)])
        meaning = Meaning(tree, True, ["a", "d"])
        for rule in ("told", "turned"):
            self.assertEqual(moved(meaning, "b", "top", rule).turns, ("a", "d"))
            self.assertEqual(moved(meaning, "c", "a", rule).turns, ("a", "d"))
        for box, folder in (("b", "top"), ("b", "c"), ("c", "a")):
            error = raised(moved, meaning, box, folder, "meant")
            self.assertIs(type(error), Locked)
            self.assertEqual(error.box, box)
            self.assertIs(type(raised(back, meaning, box, folder, "meant")), Locked)
        self.assertEqual(moved(meaning, "b", "a", "meant").turns, ("a", "d"))

    def test_errors_in_their_order(self):
        locked = Tree([("a", "top", "folder", 1), ("b", "a", "folder", None), ("c", "b", "item", 1)])
        meaning = Meaning(locked, True, ["a"])
        for work in (moved, back):
            for thing in NO_PLACES + ["top"]:
                for folder, rule in (("top", "told"), (thing, "told"), ("c", "nope"), ("nope", None)):
                    error = raised(work, meaning, thing, folder, rule)
                    self.assertIs(type(error), NoBox)
                    self.assertIs(error.box, thing)
            for thing in NO_PLACES:
                for rule in ("meant", "nope", None, []):
                    error = raised(work, meaning, "b", thing, rule)
                    self.assertIs(type(error), NoBox)
                    self.assertIs(error.box, thing)
            for box, into in (("b", "c"), ("a", "a"), ("a", "b"), ("c", "c")):
                for rule in ("meant", "nope", None, []):
                    error = raised(work, meaning, box, into, rule)
                    self.assertIs(type(error), BadMove)
                    self.assertEqual((error.box, error.into), (box, into))
            for thing in NO_RULES:
                error = raised(work, meaning, "b", "top", thing)
                self.assertIs(type(error), BadRule)
                self.assertIs(error.rule, thing)
            error = raised(work, meaning, "b", "top", "meant")
            self.assertIs(type(error), Locked)
            self.assertEqual(error.box, "b")

    def test_what_is_passed_is_not_changed(self):
        meaning = Meaning(small_tree(), True, ["a", "c"])
        for rule in RULES:
            moved(meaning, "c", "top", rule)
            back(meaning, "c", "top", rule)
            unlike_moves(meaning, rule, "told")
        self.assertEqual(meaning, Meaning(small_tree(), True, ["a", "c"]))
        self.assertEqual(meaning.tree.rows(), small_tree().rows())


class Back(unittest.TestCase):

    def test_against_moving_twice(self):
        for meaning in list(random_meanings(2, 50, 20)) + all_meanings(small_tree())[::5]:
            for box in places(meaning.tree)[1:]:
                for folder in let(meaning.tree, box):
                    for rule in RULES:
                        values = told_moved(meaning, box, folder, rule)
                        if values[box] != values[folder] and meaning.tree.price(box) is None:
                            error = raised(back, meaning, box, folder, rule)
                            self.assertIs(type(error), Locked)
                            self.assertEqual(error.box, box)
                            continue
                        home = moved(moved(meaning, box, folder, rule), box, meaning.tree.folder(box), rule)
                        told = home.default == meaning.default and set(home.turns) == set(meaning.turns)
                        self.assertIs(back(meaning, box, folder, rule), told)

    def test_turned_and_meant_come_back(self):
        for meaning in all_meanings(small_tree()):
            for box in places(meaning.tree)[1:]:
                for folder in let(meaning.tree, box):
                    self.assertIs(back(meaning, box, folder, "turned"), True)
                    self.assertIs(back(meaning, box, folder, "meant"), True)

    def test_told_forgets_a_turn_in_a_folder_of_the_same_value(self):
        meaning = Meaning(small_tree(), False, ["a", "c"])
        self.assertIs(back(meaning, "c", "top", "told"), False)
        self.assertIs(back(meaning, "c", "a", "told"), True)
        self.assertIs(back(meaning, "d", "top", "told"), True)
        self.assertIs(back(meaning, "e", "a", "told"), True)


class UnlikeMoves(unittest.TestCase):

    def test_against_all_moves(self):
        for meaning in list(random_meanings(3, 40, 25)) + all_meanings(small_tree())[::3]:
            for rule in RULES:
                for other in RULES:
                    self.assertEqual(unlike_moves(meaning, rule, other), told_unlike(meaning, rule, other))

    def test_order_and_form(self):
        meaning = Meaning(small_tree(), False, ["a", "c", "e"])
        told = unlike_moves(meaning, "told", "turned")
        self.assertEqual(told, [("c", "top"), ("e", "a"), ("e", "b")])
        self.assertIs(type(told), list)
        self.assertEqual({type(pair) for pair in told}, {tuple})
        self.assertEqual(unlike_moves(meaning, "told", "meant"), [("b", "top"), ("d", "top")])
        self.assertEqual(unlike_moves(meaning, "meant", "told"), [("b", "top"), ("d", "top")])
        self.assertEqual(unlike_moves(meaning, "meant", "turned"),
                         [("b", "top"), ("c", "top"), ("d", "top"), ("e", "a"), ("e", "b")])

    def test_the_same_rule(self):
        for meaning in all_meanings(small_tree()):
            for rule in RULES:
                self.assertEqual(unlike_moves(meaning, rule, rule), [])

    def test_the_facts(self):
        for meaning in all_meanings(small_tree()):
            tree, told, turned = meaning.tree, [], []
            for box in places(tree)[1:]:
                for folder in let(tree, box):
                    alike = meaning.value(box) == meaning.value(folder)
                    if box not in meaning.turns and not alike:
                        told.append((box, folder))
                    if box in meaning.turns and alike:
                        turned.append((box, folder))
            self.assertEqual(unlike_moves(meaning, "told", "meant"), told)
            self.assertEqual(unlike_moves(meaning, "told", "turned"), turned)

    def test_where_a_rule_raises_locked(self):
        tree = Tree([("a", "top", "folder", 1), ("b", "a", "item", None), ("c", "a", "item", 2)])
        self.assertEqual(unlike_moves(Meaning(tree, True, ["a"]), "told", "meant"), [("c", "top")])

    def test_forty_boxes(self):
        chance = random.Random(4)
        meaning = random_meaning(chance, random_tree(chance, 40, 10))
        self.assertEqual(unlike_moves(meaning, "told", "turned"), told_unlike(meaning, "told", "turned"))

    def test_bad_rule(self):
        meaning = Meaning(small_tree(), True)
        for thing in NO_RULES:
            for rule, other in ((thing, "told"), ("meant", thing), (thing, "nope"), (thing, thing)):
                error = raised(unlike_moves, meaning, rule, other)
                self.assertIs(type(error), BadRule)
                self.assertIs(error.rule, thing)
        self.assertIs(type(raised(unlike_moves, Meaning(Tree([]), True), "told", "nope")), BadRule)


if __name__ == "__main__":
    unittest.main()
