"""[8] to [12], and middle of [30]: meanings."""

import unittest
from itertools import product

from samples import NO_PLACES, all_meanings, raised, sample_tree, small_tree
from turnsets.errors import BadDefault, Locked, NoBox, UnlikeTrees
from turnsets.meanings import Meaning, middle, parting
from turnsets.trees import Tree


def climbed(meaning, box):
    """The value of a box, told by going up to the top."""
    turned = [step for step in meaning.tree.way(box) if step in meaning.turns]
    return meaning.default != (len(turned) & 1 == 1)


class Making(unittest.TestCase):

    def test_attributes(self):
        tree = sample_tree()
        meaning = Meaning(tree, True, ["e", "a", "s"])
        self.assertEqual(meaning.tree, tree)
        self.assertIs(meaning.default, True)
        self.assertEqual(meaning.turns, ("a", "s", "e"))
        self.assertIs(type(meaning.turns), tuple)

    def test_turns_may_be_left_out(self):
        for default in (False, True):
            meaning = Meaning(sample_tree(), default)
            self.assertEqual(meaning.turns, ())
            self.assertIs(meaning.default, default)

    def test_a_box_that_stands_twice_counts_once(self):
        self.assertEqual(Meaning(sample_tree(), True, ("b", "a", "b", "b")).turns, ("a", "b"))

    def test_later_changes_of_turns_have_no_effect(self):
        turns = ["a", "b"]
        meaning = Meaning(sample_tree(), False, turns)
        self.assertEqual(turns, ["a", "b"])
        turns.append("c")
        turns[0] = "x"
        self.assertEqual(meaning.turns, ("a", "b"))
        self.assertIs(meaning.value("c"), True)
        self.assertIs(meaning.value("x"), False)

    def test_bad_default(self):
        for thing in NO_PLACES + ["top", "on", "a"]:
            if thing is not True and thing is not False:
                for turns in ((), ["nobox"], ["d"], [["a"]]):
                    self.assertIs(type(raised(Meaning, sample_tree(), thing, turns)), BadDefault)

    def test_no_box(self):
        for thing in NO_PLACES + ["top"]:
            for turns in ([thing], ["a", thing], ("d", thing, "f"), [thing, "nobox"], ["d", thing, None]):
                error = raised(Meaning, sample_tree(), True, turns)
                self.assertIs(type(error), NoBox)
                self.assertIs(error.box, thing)

    def test_locked(self):
        for turns, box in ((["d"], "d"), (["f"], "f"), (["a", "f", "d"], "f"), (("d", "f"), "d")):
            error = raised(Meaning, sample_tree(), True, turns)
            self.assertIs(type(error), Locked)
            self.assertEqual(error.box, box)

    def test_the_empty_tree(self):
        meaning = Meaning(Tree([]), True)
        self.assertEqual(meaning.states(), {"top": True})
        self.assertEqual(raised(Meaning, Tree([]), True, ["top"]).box, "top")


class Values(unittest.TestCase):

    def setUp(self):
        self.meaning = Meaning(sample_tree(), False, ["a", "b", "c", "x"])

    def test_states_and_value(self):
        told = {"top": False, "a": True, "b": False, "x": True, "c": False, "d": False, "s": True, "e": False,
                "f": False}
        self.assertEqual(list(self.meaning.states().items()), list(told.items()))
        for box, value in told.items():
            self.assertIs(self.meaning.value(box), value)
            self.assertIs(self.meaning.states()[box], value)

    def test_states_is_a_new_dict(self):
        self.meaning.states()["a"] = False
        self.meaning.states().clear()
        self.assertIs(self.meaning.value("a"), True)
        self.assertEqual(len(self.meaning.states()), 9)

    def test_value_no_box(self):
        for thing in NO_PLACES:
            error = raised(self.meaning.value, thing)
            self.assertIs(type(error), NoBox)
            self.assertIs(error.box, thing)

    def test_in(self):
        for box, value in self.meaning.states().items():
            self.assertIs(box in self.meaning, value)
        self.assertIs("top" in Meaning(sample_tree(), True), True)
        for thing in NO_PLACES:
            self.assertIs(thing in self.meaning, False)
            self.assertIs(thing in Meaning(sample_tree(), True), False)

    def test_len_and_going_through(self):
        self.assertEqual(len(self.meaning), 4)
        self.assertEqual(list(self.meaning), ["a", "b", "x", "c"])
        self.assertEqual([box for box in self.meaning], ["a", "b", "x", "c"])
        self.assertEqual(len(Meaning(sample_tree(), True)), 0)
        self.assertEqual(list(Meaning(sample_tree(), True)), [])

    def test_price(self):
        self.assertEqual(self.meaning.price(), 1 + 2 + 3 + 4)
        self.assertEqual(Meaning(sample_tree(), True).price(), 0)
        self.assertEqual(Meaning(sample_tree(), True, ["e", "e"]).price(), 6)

    def test_price_of_all(self):
        prices = {"a": 1, "b": 2, "c": 3, "d": 4, "e": 5}
        for meaning in all_meanings(small_tree()):
            self.assertEqual(meaning.price(), sum(prices[box] for box in meaning.turns))

    def test_a_box_has_the_value_of_its_folder_unless_turned(self):
        for meaning in all_meanings(small_tree()):
            for box, value in meaning.states().items():
                self.assertIs(value, climbed(meaning, box))
                self.assertIs(meaning.value(box), value)

    def test_a_newcomer_has_the_value_of_its_folder(self):
        for meaning in all_meanings(sample_tree()):
            for folder in ("top", "a", "x", "c"):
                grown = meaning.tree.more(("new", folder, "item", None))
                newer = Meaning(grown, meaning.default, meaning.turns)
                self.assertIs(newer.value("new"), meaning.value(folder))
            for shut in ("s", "f"):
                grown = meaning.tree.opened(shut, [("new", shut, "item", None)])
                newer = Meaning(grown, meaning.default, meaning.turns)
                self.assertIs(newer.value("new"), meaning.value(shut))


class Comparing(unittest.TestCase):

    def test_equal_if_trees_defaults_and_turns_are(self):
        one = Meaning(sample_tree(), True, ["a", "b"])
        self.assertTrue(one == Meaning(sample_tree(), True, ("b", "a", "b")))
        self.assertFalse(one != Meaning(sample_tree(), True, ("b", "a", "b")))
        for other in (Meaning(sample_tree(), False, ["a", "b"]), Meaning(sample_tree(), True, ["a"]),
                      Meaning(sample_tree().less("e"), True, ["a", "b"])):
            self.assertFalse(one == other)
            self.assertTrue(one != other)

    def test_the_same_turns_in_another_order_of_the_tree_are_unequal(self):
        tree = sample_tree()
        self.assertFalse(Meaning(tree, True, ["a"]) == Meaning(tree.moved("e", "top"), True, ["a"]))

    def test_a_meaning_equals_nothing_else(self):
        tree = sample_tree()
        for thing in NO_PLACES + [tree, tree.rows(), ("a",), "top"]:
            self.assertFalse(Meaning(tree, True, ["a"]) == thing)
            self.assertFalse(Meaning(tree, True) == thing)

    def test_equal_exactly_if_the_values_are(self):
        meanings = all_meanings(small_tree())
        for one, other in product(meanings, meanings):
            self.assertEqual(one == other, one.states() == other.states())

    def test_parting_is_the_first_place_of_unlike_values(self):
        meanings = all_meanings(small_tree())
        for one, other in product(meanings, meanings):
            unlike = [box for box in one.states() if one.value(box) != other.value(box)]
            self.assertEqual(parting(one, other), unlike[0] if unlike else None)
            self.assertEqual(parting(one, other) is None, one == other)

    def test_parting(self):
        tree = sample_tree()
        self.assertIsNone(parting(Meaning(tree, True, ["a"]), Meaning(sample_tree(), True, ["a"])))
        self.assertEqual(parting(Meaning(tree, True), Meaning(tree, False)), "top")
        self.assertEqual(parting(Meaning(tree, True, ["e", "c"]), Meaning(tree, True, ["e"])), "c")
        self.assertEqual(parting(Meaning(tree, True, ["e"]), Meaning(tree, True, ["c"])), "c")
        self.assertEqual(parting(Meaning(tree, True), Meaning(tree, False, ["a", "x", "e"])), "top")

    def test_parting_unlike_trees(self):
        one = Meaning(sample_tree(), True)
        for tree in (sample_tree().less("e"), sample_tree().moved("e", "top"), Tree([])):
            self.assertIs(type(raised(parting, one, Meaning(tree, True))), UnlikeTrees)
            self.assertIs(type(raised(parting, Meaning(tree, False), one)), UnlikeTrees)


class Operators(unittest.TestCase):

    def told(self, work, rule):
        """Holds the values of an operator against a rule, for all pairs of meanings of a small tree."""
        meanings = all_meanings(small_tree())
        for one, other in product(meanings, meanings):
            result = work(one, other)
            self.assertIs(type(result), Meaning)
            self.assertEqual(result.tree, one.tree)
            self.assertEqual(result.states(), {box: rule(one.value(box), other.value(box)) for box in one.states()})
            self.assertEqual(result, Meaning(result.tree, result.default, result.turns))

    def test_xor(self):
        self.told(lambda one, other: one ^ other, lambda a, b: a != b)

    def test_and(self):
        self.told(lambda one, other: one & other, lambda a, b: a and b)

    def test_or(self):
        self.told(lambda one, other: one | other, lambda a, b: a or b)

    def test_minus(self):
        self.told(lambda one, other: one - other, lambda a, b: a and not b)

    def test_invert(self):
        for meaning in all_meanings(small_tree()):
            self.assertEqual((~meaning).states(), {box: not value for box, value in meaning.states().items()})
            self.assertEqual((~meaning).turns, meaning.turns)
            self.assertEqual(~~meaning, meaning)

    def test_the_turns_of_xor_are_those_of_just_one(self):
        meanings = all_meanings(small_tree())
        for one, other in product(meanings, meanings):
            self.assertEqual(set((one ^ other).turns), set(one.turns) ^ set(other.turns))
            self.assertIs((one ^ other).default, one.default != other.default)

    def test_nothing_locked_gets_a_turn(self):
        tree = Tree([("a", "top", "folder", None), ("b", "a", "item", 1), ("c", "a", "item", None),
                     ("d", "top", "folder", 2), ("e", "d", "shut", None)])
        meanings = all_meanings(tree)
        for one, other in product(meanings, meanings):
            for result in (one ^ other, one & other, one | other, one - other, ~one):
                self.assertEqual([box for box in result if tree.price(box) is None], [])

    def test_examples(self):
        tree = small_tree()
        one, other = Meaning(tree, True, ["a", "c"]), Meaning(tree, False, ["a", "b"])
        self.assertEqual(one ^ other, Meaning(tree, True, ["b", "c"]))
        self.assertEqual(one & other, Meaning(tree, False))
        self.assertEqual(one | other, Meaning(tree, True, ["b", "c"]))
        self.assertEqual(one - other, one)
        self.assertEqual(other - one, other)
        self.assertEqual(~one, Meaning(tree, False, ["a", "c"]))

    def test_operators_change_nothing(self):
        tree = small_tree()
        one, other = Meaning(tree, True, ["a"]), Meaning(tree, False, ["b"])
        for work in (lambda: one ^ other, lambda: one & other, lambda: one | other, lambda: one - other, lambda: ~one):
            work()
            self.assertEqual(one, Meaning(tree, True, ["a"]))
            self.assertEqual(other, Meaning(tree, False, ["b"]))

    def test_unlike_trees(self):
        one, other = Meaning(sample_tree(), True), Meaning(sample_tree().less("e"), True)
        for work in (lambda: one ^ other, lambda: one & other, lambda: one | other, lambda: one - other,
                     lambda: other ^ one, lambda: other & one, lambda: other | one, lambda: other - one):
            self.assertIs(type(raised(work)), UnlikeTrees)


class Middle(unittest.TestCase):

    def test_one_meaning(self):
        for meaning in all_meanings(small_tree()):
            self.assertEqual(middle([meaning]), (meaning, []))

    def test_the_pair(self):
        told = middle([Meaning(sample_tree(), True), Meaning(sample_tree(), True, ["a"])])
        self.assertIs(type(told), tuple)
        self.assertIs(type(told[1]), list)

    def test_more_than_half(self):
        tree = sample_tree()
        meanings = [Meaning(tree, True, ["a", "e"]), Meaning(tree, True, ["a", "b"]), Meaning(tree, False, ["b"])]
        self.assertEqual(middle(meanings), (Meaning(tree, True, ["a", "b"]), []))

    def test_half(self):
        tree = sample_tree()
        meanings = (Meaning(tree, True, ["e", "x", "a"]), Meaning(tree, False, ["b", "x"]))
        self.assertEqual(middle(meanings), (Meaning(tree, False, ["x"]), ["top", "a", "b", "e"]))
        self.assertEqual(middle([meanings[0], meanings[0]]), (meanings[0], []))

    def test_half_of_four(self):
        tree = sample_tree()
        meanings = [Meaning(tree, True, ["e", "b"]), Meaning(tree, True, ["e", "a"]), Meaning(tree, True, ["e"]),
                    Meaning(tree, False, ["b"])]
        self.assertEqual(middle(meanings), (Meaning(tree, True, ["e"]), ["b"]))

    def test_turns_are_counted_not_values(self):
        tree = small_tree()
        meanings = [Meaning(tree, False, ["a"]), Meaning(tree, False, ["b"]), Meaning(tree, False, ["c"])]
        self.assertEqual(middle(meanings), (Meaning(tree, False), []))
        self.assertEqual([meaning.value("c") for meaning in meanings], [True, True, True])

    def test_no_meaning_has_a_lesser_sum(self):
        tree = Tree([("a", "top", "folder", 3), ("b", "a", "item", 1), ("c", "top", "item", 2)])
        meanings = all_meanings(tree)
        unlike = {}
        for at, one in enumerate(meanings):
            for to, other in enumerate(meanings):
                unlike[at, to] = len(set(one.turns) ^ set(other.turns)) + (one.default != other.default)
        places = list(range(len(meanings)))
        for many in (1, 2, 3):
            for picks in product(places, repeat=many):
                found, halved = middle([meanings[at] for at in picks])
                sums = [sum(unlike[to, at] for at in picks) for to in places]
                self.assertEqual(sums[meanings.index(found)], min(sums))
                # Each place at which just half have a turn doubles the number of the best meanings.
                self.assertEqual(sums.count(min(sums)), 2 ** len(halved))

    def test_what_is_passed_is_not_changed(self):
        tree = small_tree()
        meanings = [Meaning(tree, True, ["a"]), Meaning(tree, False, ["b"])]
        kept = list(meanings)
        middle(meanings)[1].clear()
        self.assertEqual(meanings, kept)
        self.assertEqual(middle(meanings)[1], ["top", "a", "b"])

    def test_unlike_trees(self):
        one, other = Meaning(sample_tree(), True), Meaning(sample_tree().less("e"), True)
        for meanings in ([one, other], [other, one], (one, one, other), [other, one, one]):
            self.assertIs(type(raised(middle, meanings)), UnlikeTrees)


if __name__ == "__main__":
    unittest.main()
