"""[38]: live trees."""

import random
import unittest

from samples import NO_PLACES, places, raised, random_meaning, random_tree, sample_tree, small_tree, within
from turnsets.deeds import Row
from turnsets.errors import BadDeed, BadMove, BadRow, BadRule, BoxError, Locked, LockedTree, NoBox
from turnsets.live import Live
from turnsets.meanings import Meaning
from turnsets.moving import moved
from turnsets.trees import Tree

RULES = ["told", "turned", "meant"]


class Stop(Exception):
    """An error of the caller's own."""


def small_live():
    return Live(Meaning(small_tree(), False, ["a", "c"]))


def told_on(meaning, box):
    return len([place for place in within(meaning.tree, box) if place != "top"
                and meaning.tree.kind(place) == "item" and meaning.value(place)])


def told_change(meaning, word, values):
    """The meaning behind a change, told by the words of [38]."""
    tree = meaning.tree
    if word == "add":
        return Meaning(tree.more(*values), meaning.default, meaning.turns)
    if word == "drop":
        return Meaning(tree.less(*values), meaning.default,
                       [turn for turn in meaning.turns if turn not in within(tree, values[0])])
    if word == "move":
        return moved(meaning, *values)
    if word == "do":
        return Row(tree, [values])(meaning)
    return Meaning(tree, meaning.default, sorted({*meaning.turns} ^ {values[0]}))


def random_change(chance, live, at):
    """The name of one of the five changes, and its arguments, some of which are wrong."""
    tree = live.meaning().tree
    names = places(tree) + ["nope"]
    word = chance.choice(["add", "drop", "move", "do", "turn", "turn"])
    if word == "add":
        name = "n" + chr(97 + at // 26) + chr(97 + at % 26)
        price = None if chance.random() < 0.1 else chance.randint(1, 9)
        return word, ((name, chance.choice(names), chance.choice(["folder", "item", "shut"]), price),)
    if word == "move":
        return word, (chance.choice(names), chance.choice(names), chance.choice(RULES + ["nope"] * (at % 7 == 0)))
    if word == "do":
        return word, (chance.choice(["on", "off", "flip"]), chance.choice(names))
    return word, (chance.choice(names),)


def run(live, change):
    """Does a change; returns the error that it raised, or None."""
    word, values = change
    try:
        told = getattr(live, word)(*values)
    except BoxError as error:
        return error
    assert told is None
    return None


def history(live):
    """All that can be taken back and done again, found by doing so; the live tree is left as it was."""
    here, back, ahead = live.meaning(), [], []
    while live.undo():
        back.append(live.meaning())
    for step in back:
        assert live.again()
    while live.again():
        ahead.append(live.meaning())
    for step in ahead:
        assert live.undo()
    assert live.meaning() == here
    return here, back, ahead


class Changes(unittest.TestCase):

    def test_the_present_meaning(self):
        meaning = Meaning(sample_tree(), True, ["a"])
        self.assertEqual(Live(meaning).meaning(), meaning)

    def test_add(self):
        live = small_live()
        self.assertIsNone(live.add(("n", "b", "item", 7)))
        self.assertEqual(live.meaning(), Meaning(small_tree().more(("n", "b", "item", 7)), False, ["a", "c"]))
        live.add(["m", "top", "folder", None])
        live.add(("o", "m", "item", 1))
        self.assertEqual([live.meaning().value(box) for box in "nmo"], [True, False, False])

    def test_drop(self):
        live = small_live()
        self.assertIsNone(live.drop("b"))
        self.assertEqual(live.meaning(), Meaning(small_tree().less("b"), False, ["a"]))
        live.add(("b", "a", "folder", 2))
        live.add(("c", "b", "item", 3))
        self.assertEqual(live.meaning().turns, ("a",))
        live.drop("a")
        self.assertEqual(live.meaning(), Meaning(Tree([("e", "top", "item", 5)]), False))

    def test_move(self):
        for rule in RULES:
            live = small_live()
            self.assertIsNone(live.move("c", "top", rule))
            self.assertEqual(live.meaning(), moved(Meaning(small_tree(), False, ["a", "c"]), "c", "top", rule))

    def test_do(self):
        live = small_live()
        self.assertIsNone(live.do("on", "b"))
        self.assertEqual(live.meaning(), Meaning(small_tree(), False, ["a"]))
        live.do("flip", "top")
        self.assertEqual(live.meaning(), Meaning(small_tree(), True, ["a"]))
        live.do("off", "top")
        self.assertEqual(live.meaning(), Meaning(small_tree(), False))

    def test_turn(self):
        live = small_live()
        self.assertIsNone(live.turn("b"))
        self.assertEqual(live.meaning(), Meaning(small_tree(), False, ["a", "b", "c"]))
        live.turn("a")
        self.assertEqual(live.meaning(), Meaning(small_tree(), False, ["b", "c"]))
        live.turn("a")
        self.assertEqual(live.meaning(), Meaning(small_tree(), False, ["a", "b", "c"]))

    def test_on(self):
        tree = Tree([("a", "top", "folder", 1), ("i", "a", "item", 1), ("s", "a", "shut", 1),
                     ("f", "a", "folder", 1), ("j", "f", "item", 1), ("k", "top", "item", 1)])
        live = Live(Meaning(tree, True, ["f"]))
        self.assertEqual([live.on(box) for box in ("top", "a", "i", "s", "f", "j", "k")], [2, 1, 1, 0, 0, 0, 1])
        live.turn("j")
        self.assertEqual([live.on(box) for box in ("top", "a", "f", "j")], [3, 2, 1, 1])

    def test_what_is_passed_is_not_changed(self):
        meaning, row = Meaning(small_tree(), False, ["a", "c"]), ["n", "b", "item", 7]
        live = Live(meaning)
        live.add(row)
        live.turn("a")
        live.move("c", "top", "told")
        self.assertEqual(meaning, Meaning(small_tree(), False, ["a", "c"]))
        self.assertEqual(row, ["n", "b", "item", 7])
        row[0] = "m"
        self.assertIn("n", live.meaning().tree)

    def test_two_of_one_meaning_are_apart(self):
        meaning = Meaning(small_tree(), False, ["a", "c"])
        one, other = Live(meaning), Live(meaning)
        one.turn("e")
        self.assertEqual(other.meaning(), meaning)
        self.assertIs(other.undo(), False)


class WrongChanges(unittest.TestCase):

    def locked_live(self):
        live = Live(Meaning(Tree([("a", "top", "folder", 1), ("l", "a", "folder", None), ("i", "l", "item", 2),
                                  ("s", "top", "shut", 3)]), True, ["a"]))
        live.turn("i")
        live.turn("s")
        live.undo()
        return live

    def refused(self, live, told, work, *values):
        """Holds the error of a call, and that it changed nothing."""
        before = history(live)
        error = raised(work, *values)
        self.assertEqual((type(error),) + tuple(vars(error).values()), told)
        for value, passed in zip(vars(error).values(), told[1:]):
            self.assertIs(type(value), type(passed))
        self.assertEqual(history(live), before)

    def test_no_box(self):
        for thing in NO_PLACES + ["top"]:
            for live in (small_live(), self.locked_live()):
                self.refused(live, (NoBox, thing), live.drop, thing)
                self.refused(live, (NoBox, thing), live.turn, thing)
                self.refused(live, (NoBox, thing), live.move, thing, "a", "told")
                if thing != "top":
                    self.refused(live, (NoBox, thing), live.on, thing)
                    self.refused(live, (NoBox, thing), live.move, "a", thing, "nope")

    def test_bad_row(self):
        for thing in NO_PLACES + [("a", "top", "item", 1), ("n", "i", "item", 1), ("n", "top", "item", 0)]:
            live = self.locked_live()
            self.refused(live, (BadRow, 4), live.add, thing)

    def test_bad_move_bad_rule_and_locked(self):
        live = self.locked_live()
        self.refused(live, (BadMove, "a", "l"), live.move, "a", "l", "nope")
        self.refused(live, (BadMove, "i", "s"), live.move, "i", "s", "told")
        for thing in NO_PLACES + ["top", "TOLD"]:
            self.refused(live, (BadRule, thing), live.move, "l", "top", thing)
        self.refused(live, (Locked, "l"), live.move, "l", "top", "meant")
        self.refused(live, (Locked, "l"), live.turn, "l")

    def test_bad_deed_and_locked_tree(self):
        live = small_live()
        live.turn("e")
        live.undo()
        for thing in NO_PLACES:
            self.refused(live, (BadDeed, 0), live.do, "on", thing)
            self.refused(live, (BadDeed, 0), live.do, thing, "a")
        self.refused(live, (BadDeed, 0), live.do, "keep", "a")
        live = self.locked_live()
        self.refused(live, (LockedTree,), live.do, "on", "a")
        self.refused(live, (LockedTree,), live.do, "nope", "nope")


class BackAndAgain(unittest.TestCase):

    def test_each_change(self):
        changes = [("add", (("n", "b", "item", 7),)), ("drop", ("b",)), ("move", ("c", "top", "told")),
                   ("do", ("flip", "a")), ("turn", ("c",))]
        for word, values in changes:
            live = small_live()
            before = live.meaning()
            getattr(live, word)(*values)
            behind = live.meaning()
            for times in range(3):
                self.assertIs(live.undo(), True)
                self.assertEqual(live.meaning(), before)
                self.assertIs(live.undo(), False)
                self.assertEqual(live.meaning(), before)
                self.assertIs(live.again(), True)
                self.assertEqual(live.meaning(), behind)
                self.assertIs(live.again(), False)
                self.assertEqual(live.meaning(), behind)

    def test_a_new_one_has_nothing_to_take_back(self):
        live = small_live()
        self.assertIs(live.undo(), False)
        self.assertIs(live.again(), False)
        self.assertEqual(live.meaning(), Meaning(small_tree(), False, ["a", "c"]))

    def test_a_change_that_left_all_as_it_was_counts(self):
        live = small_live()
        live.turn("e")
        live.do("on", "e")
        live.do("on", "e")
        self.assertIs(live.undo(), True)
        self.assertIs(live.undo(), True)
        self.assertEqual(live.meaning().turns, ("a", "c", "e"))
        self.assertIs(live.undo(), True)
        self.assertEqual(live.meaning().turns, ("a", "c"))
        self.assertIs(live.undo(), False)
        live.again()
        # This leaves all as it was, but the two that were taken back are gone.
        live.do("on", "e")
        self.assertIs(live.again(), False)
        self.assertIs(live.undo(), True)
        self.assertIs(live.undo(), True)
        self.assertIs(live.undo(), False)

    def test_a_new_change_makes_that_none_can_be_done_again(self):
        live = small_live()
        live.turn("e")
        live.turn("d")
        live.undo()
        live.undo()
        live.turn("b")
        self.assertIs(live.again(), False)
        self.assertIs(live.undo(), True)
        self.assertEqual(live.meaning().turns, ("a", "c"))
        self.assertIs(live.again(), True)
        self.assertEqual(live.meaning().turns, ("a", "b", "c"))

    def test_looking_and_errors_keep_what_can_be_done_again(self):
        live = small_live()
        live.turn("e")
        live.undo()
        live.on("top")
        live.meaning()
        self.assertIs(type(raised(live.turn, "top")), NoBox)
        self.assertIs(live.again(), True)
        self.assertEqual(live.meaning().turns, ("a", "c", "e"))

    def test_random_changes(self):
        chance, errors = random.Random(1), {}
        for at in range(60):
            locked = chance.choice([0, 20])
            meaning = random_meaning(chance, random_tree(chance, chance.randint(0, 10), locked))
            live, states, here = Live(meaning), [meaning], 0
            for step in range(30):
                if chance.random() < 0.3:
                    self.assertIs(live.undo(), here > 0)
                    here = max(0, here - 1)
                elif chance.random() < 0.4:
                    self.assertIs(live.again(), here < len(states) - 1)
                    here = min(len(states) - 1, here + 1)
                else:
                    change = random_change(chance, live, step)
                    error = run(live, change)
                    if error is None:
                        states = states[:here + 1] + [told_change(states[here], *change)]
                        here += 1
                    else:
                        self.assertIs(type(raised(told_change, states[here], *change)), type(error))
                        errors[type(error)] = True
                self.assertEqual(live.meaning(), states[here])
                for box in places(states[here].tree):
                    self.assertEqual(live.on(box), told_on(states[here], box))
        for error in (NoBox, BadRow, BadMove, BadRule, BadDeed, LockedTree, Locked):
            self.assertIn(error, errors)


class Trials(unittest.TestCase):

    def trying_live(self):
        """A live tree with one change that can be taken back and two that can be done again."""
        live = small_live()
        live.turn("e")
        live.add(("n", "a", "item", 1))
        live.drop("b")
        live.undo()
        live.undo()
        return live

    def changing(self, live):
        live.undo()
        live.drop("a")
        live.turn("e")
        live.undo()
        return [live.meaning().turns, len(live.meaning().tree)]

    def test_a_trial_that_ends_by_a_value(self):
        live = self.trying_live()
        before = history(live)
        self.assertEqual([len(before[1]), len(before[2])], [1, 2])
        self.assertEqual(live.trial(self.changing), [(), 1])
        self.assertEqual(history(live), before)
        told = []
        self.assertIs(live.trial(lambda one: told), told)
        self.assertIsNone(live.trial(lambda one: None))
        self.assertEqual(history(live), before)

    def test_it_gets_the_live_tree_itself(self):
        live, seen = self.trying_live(), []
        self.assertIs(live.trial(lambda one: one), live)
        live.trial(lambda one: seen.append((one.turn("d"), live.meaning().turns, live.on("d"))))
        self.assertEqual(seen, [(None, ("a", "c", "d", "e"), 0)])

    def test_a_trial_that_ends_by_an_error(self):
        for work, error in ((lambda one: one.turn("top"), NoBox), (lambda one: 1 // 0, ZeroDivisionError)):
            def fails(one):
                self.changing(one)
                work(one)
            live = self.trying_live()
            before = history(live)
            with self.assertRaises(error):
                live.trial(fails)
            self.assertEqual(history(live), before)

    def test_errors_of_all_kinds_leave_it(self):
        for error in (Stop, ValueError, KeyboardInterrupt, SystemExit):
            def fails(one):
                self.changing(one)
                raise error("told")
            live = self.trying_live()
            before = history(live)
            with self.assertRaises(error):
                live.trial(fails)
            self.assertEqual(history(live), before)

    def test_it_may_take_all_back_and_do_all_again(self):
        live = self.trying_live()
        before = history(live)

        def all_back(one):
            while one.undo():
                pass
            return one.meaning()

        def all_again(one):
            while one.again():
                pass
            return one.meaning()

        self.assertEqual(live.trial(all_back), Meaning(small_tree(), False, ["a", "c"]))
        self.assertEqual(history(live), before)
        self.assertEqual(live.trial(all_again).tree, small_tree().more(("n", "a", "item", 1)).less("b"))
        self.assertEqual(history(live), before)

    def test_one_trial_within_another(self):
        live = self.trying_live()
        before, seen = history(live), []

        def inner(one):
            one.undo()
            one.drop("a")
            seen.append(one.meaning().turns)
            raise Stop()

        def outer(one):
            one.turn("d")
            kept = history(one)
            with self.assertRaises(Stop):
                one.trial(inner)
            self.assertEqual(history(one), kept)
            self.assertEqual(one.trial(self.changing), [("e",), 1])
            self.assertEqual(history(one), kept)
            one.turn("c")
            return one.meaning().turns

        self.assertEqual(live.trial(outer), ("a", "d", "e"))
        self.assertEqual(seen, [("e",)])
        self.assertEqual(history(live), before)

    def test_behind_a_trial_changes_go_on(self):
        live = self.trying_live()
        live.trial(self.changing)
        self.assertIs(live.again(), True)
        self.assertIs(live.again(), True)
        self.assertIs(live.again(), False)
        live.trial(self.changing)
        live.turn("d")
        self.assertEqual(live.meaning().turns, ("a", "d", "e"))
        self.assertEqual([live.undo() for times in range(5)], [True, True, True, True, False])
        self.assertEqual(live.meaning(), Meaning(small_tree(), False, ["a", "c"]))


if __name__ == "__main__":
    unittest.main()
