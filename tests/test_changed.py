"""[7], [8] and [15] to [36] of trees that were changed by more, less, moved and opened."""

import random
import unittest

from samples import all_meanings, keeping, places, raised, random_meaning, random_tree, random_wish, small_tree, within
from turnsets.cheap import cheapest, how_many, is_ways
from turnsets.deeds import Row, clash, fewest_deeds, idle, join
from turnsets.errors import BadLine, BadRange, BadWish, BoxError, NoBox, UnlikeTrees
from turnsets.meanings import Meaning, middle, parting
from turnsets.moving import back, moved, unlike_moves
from turnsets.seen import fewest_looks, sure, why_sure
from turnsets.showing import Counts, click, unseen
from turnsets.texts import listed, read, write
from turnsets.trees import Tree

WORDS = ["on", "off", "flip"]
RULES = ["told", "turned", "meant"]
TABLE = {"on": "off", "off": "on", "part": "flip", "none": "on"}


def changed_once(chance, tree, at):
    """The tree changed in one of four ways, and the rows that it has by the words of [7]."""
    rows, names = tree.rows(), places(tree)
    kinds = {row[0]: row[2] for row in rows}
    folders = ["top"] + [name for name in names if kinds.get(name) == "folder"]
    word = chance.choice(["more", "less", "moved", "opened"])
    box = chance.choice(names)
    row = ("n" + chr(97 + at), chance.choice(folders), chance.choice(["folder", "item", "shut"]), chance.randint(1, 9))
    if word == "less" and box != "top":
        return tree.less(box), [kept for kept in rows if kept[0] not in within(tree, box)]
    if word == "moved" and box != "top":
        folder = chance.choice([name for name in folders if name not in within(tree, box)])
        ahead = [kept for kept in rows if kept[0] not in within(tree, box)]
        behind = [kept for kept in rows if kept[0] in within(tree, box)]
        return tree.moved(box, folder), ahead + [(box, folder) + behind[0][2:]] + behind[1:]
    if word == "opened" and kinds.get(box) == "shut":
        inner = ("m" + chr(97 + at), box, "item", chance.randint(1, 9))
        return (tree.opened(box, [inner]),
                [kept[:2] + ("folder",) + kept[3:] if kept[0] == box else kept for kept in rows] + [inner])
    return tree.more(row), rows + [row]


def changed_trees(seed, many, locked=0, most=8):
    """Trees that were changed some times, of at most so many boxes."""
    chance = random.Random(seed)
    while many > 0:
        tree = random_tree(chance, chance.randint(1, 6), locked)
        for at in range(chance.randint(1, 6)):
            tree = changed_once(chance, tree, at)[0]
        if len(tree) <= most:
            yield chance, tree
            many -= 1


def answer(work, *values):
    """What a call returns or raises, in a form that can be compared."""
    try:
        told = work(*values)
    except BoxError as error:
        return type(error), vars(error)
    return list(told.items()) if isinstance(told, dict) else told


def deeds_told(tree, one, other, clicks, more):
    row, behind = Row(tree, clicks), Row(tree, more)
    undone = row.undo()
    return [row.deeds(), list(row.maps().items()), list(row.entries().items()), row.least().deeds(), idle(row),
            undone if undone is None else undone.deeds(), row(one), row + behind, clash(row, behind),
            fewest_deeds(one, other).deeds(), answer(join, one, row, behind)]


def moves_told(one):
    told = [unlike_moves(one, rule, other) for rule in RULES for other in RULES]
    for box in places(one.tree):
        for folder in places(one.tree):
            told += [answer(work, one, box, folder, rule) for rule in RULES for work in (moved, back)]
    return told


def wishes_told(tree, wish, default, most):
    found = answer(cheapest, tree, wish, default)
    told = [found if isinstance(found, tuple) else vars(found), answer(how_many, tree, wish, default)]
    told.append(answer(sure, tree, wish, most, default))
    told += [answer(why_sure, tree, wish, most, place, default) for place in places(tree)]
    return told + [answer(fewest_looks, tree, wish, most, default)]


def shows_told(one, items):
    counts, told = Counts(one.tree), []
    for box in places(one.tree):
        told += [work(one, box) for work in (counts.on, counts.off, counts.shows, counts.asks)]
        told += [answer(click, counts, one, box, TABLE, seen) for seen in (None, items)]
        told.append(answer(unseen, counts, one, box, TABLE, items))
    return told


class Changed(unittest.TestCase):

    def test_rows_behind_each_change(self):
        chance = random.Random(1)
        for at in range(40):
            tree = random_tree(chance, chance.randint(0, 8), 20)
            for step in range(12):
                before = tree.rows()
                other, rows = changed_once(chance, tree, step)
                self.assertEqual(other.rows(), rows)
                self.assertEqual(tree.rows(), before)
                self.assertEqual(other, Tree(rows))
                tree = other

    def test_meanings(self):
        for chance, tree in changed_trees(2, 60, 20):
            meaning = random_meaning(chance, tree)
            self.assertEqual(meaning, Meaning(Tree(tree.rows()), meaning.default, meaning.turns))
            self.assertEqual(list(meaning.states()), places(tree))
            for place in places(tree):
                turned = [box for box in tree.way(place) if box in meaning.turns]
                self.assertIs(meaning.value(place), meaning.default != (len(turned) % 2 == 1))
            self.assertEqual(list(meaning), [box for box in places(tree) if box in meaning.turns])

    def test_as_a_tree_made_of_the_same_rows(self):
        for chance, tree in changed_trees(3, 40, 15):
            fresh = Tree(tree.rows())
            one, other = random_meaning(chance, tree), random_meaning(chance, tree)
            new = [Meaning(fresh, meaning.default, meaning.turns) for meaning in (one, other)]
            items = [row[0] for row in tree.rows() if row[2] == "item" and chance.random() < 0.5]
            wish = {place: one.value(place) for place in places(tree) if chance.random() < 0.4}
            most = one.price() + chance.randint(-3, 3)
            for default in (None, False, True):
                self.assertEqual(wishes_told(tree, wish, default, most), wishes_told(fresh, wish, default, most))
            self.assertEqual(moves_told(one), moves_told(new[0]))
            self.assertEqual(shows_told(one, items), shows_told(new[0], items))
            self.assertEqual(middle([one, other, one]), middle([new[0], new[1], new[0]]))
            self.assertEqual(parting(one, other), parting(*new))
            self.assertEqual([one ^ other, one & other, one | other, one - other, ~one],
                             [new[0] ^ new[1], new[0] & new[1], new[0] | new[1], new[0] - new[1], ~new[0]])
            self.assertEqual(write(one), write(new[0]))
            self.assertEqual(read(tree, write(one)), one)

    def test_deeds_and_lists_as_of_a_tree_made_of_the_same_rows(self):
        for chance, tree in changed_trees(4, 60):
            fresh = Tree(tree.rows())
            one, other = random_meaning(chance, tree), random_meaning(chance, tree)
            new = [Meaning(fresh, meaning.default, meaning.turns) for meaning in (one, other)]
            clicks = [(chance.choice(WORDS), chance.choice(places(tree))) for at in range(3)]
            more = [(chance.choice(WORDS), chance.choice(places(tree))) for at in range(3)]
            self.assertEqual(deeds_told(tree, one, other, clicks, more), deeds_told(fresh, *new, clicks, more))
            lines = [chance.choice("+-") + " " + "/".join(tree.way(box)) + chance.choice(["", "/*"])
                     for box in places(tree)[1:]] + ["+ *"]
            self.assertEqual(listed(tree, lines), listed(fresh, lines))


class ByGoingThrough(unittest.TestCase):
    """Some answers of changed trees, held against going through all meanings."""

    def test_rows_of_deeds(self):
        for chance, tree in changed_trees(5, 30, 0, 6):
            meanings = all_meanings(tree)
            row = Row(tree, [(chance.choice(WORDS), chance.choice(places(tree))) for at in range(4)])
            undone = row.undo()
            for meaning in meanings:
                self.assertEqual(row.least()(meaning), row(meaning))
                if undone is not None:
                    self.assertEqual(undone(row(meaning)), meaning)
                self.assertEqual(fewest_deeds(meaning, row(meaning))(meaning), row(meaning))
            self.assertEqual(undone is None, len({tuple(write(row(meaning))) for meaning in meanings}) < len(meanings))

    def test_what_is_cheapest_and_what_is_sure(self):
        for chance, tree in changed_trees(6, 60, 20):
            wish, default = random_wish(chance, tree, 0.4), chance.choice([None, False, True])
            kept = keeping(all_meanings(tree), wish, default)
            if kept:
                cost = min(meaning.price() for meaning in kept)
                most = cost + chance.randint(0, 6)
                self.assertEqual(cheapest(tree, wish, default).cost, cost)
                self.assertEqual(how_many(tree, wish, default), [meaning.price() for meaning in kept].count(cost))
                self.assertTrue(is_ways(tree, wish, default, cheapest(tree, wish, default).ways))
                dear = [meaning for meaning in kept if meaning.price() <= most]
                for place, value in sure(tree, wish, most, default).items():
                    both = {meaning.value(place) for meaning in dear}
                    self.assertEqual(both, {False, True} if value is None else {value})
                    self.assertEqual(why_sure(tree, wish, most, place, default) is None, value is None)
                for choice in fewest_looks(tree, wish, most, default):
                    told = {tuple(meaning.value(place) for place in choice) for meaning in dear}
                    self.assertEqual(len(told), len(dear))

    def test_middle(self):
        for chance, tree in changed_trees(7, 30, 0, 5):
            several = [random_meaning(chance, tree) for at in range(chance.randint(1, 5))]
            best, halved = middle(several)

            def apart(one):
                return sum(len(one ^ other) + (one.default != other.default) for other in several)

            self.assertEqual(min(apart(one) for one in all_meanings(tree)), apart(best))
            for place in places(tree):
                votes = [one.default if place == "top" else place in one.turns for one in several]
                self.assertEqual(place in halved, 2 * votes.count(True) == len(votes))


class Opened(unittest.TestCase):

    def setUp(self):
        self.shut = Tree([("a", "top", "folder", 1), ("s", "a", "shut", 2), ("e", "top", "item", 3)])
        self.tree = self.shut.opened("s", [("i", "s", "item", 4), ("t", "s", "shut", 5)])
        self.meaning = Meaning(self.tree, False, ["s", "t"])

    def test_counts(self):
        counts = Counts(self.tree, {"t": (1, 3)})
        self.assertEqual(counts.on(self.meaning, "a"), (1, 1))
        self.assertEqual(counts.off(self.meaning, "s"), (1, 3))
        self.assertEqual(counts.shows(self.meaning, "s"), ["part"])
        self.assertEqual(Counts(self.tree).asks(self.meaning, "top"), [])
        self.assertEqual(Counts(self.tree).asks(self.meaning, "s"), ["t"])
        error = raised(Counts, self.tree, {"s": (0, 1)})
        self.assertEqual((type(error), error.box), (BadRange, "s"))
        error = raised(Counts, self.shut, {"t": (0, 1)})
        self.assertEqual((type(error), error.box), (BadRange, "t"))

    def test_wishes_lines_and_deeds(self):
        self.assertEqual(cheapest(self.tree, {"i": True, "e": False}, False).cost, 1)
        self.assertEqual(sure(self.tree, {"i": True, "top": False}, 2)["t"], True)
        self.assertEqual(raised(cheapest, self.shut, {"i": True}).box, "i")
        self.assertIs(type(raised(sure, self.shut, {"i": True}, 2)), BadWish)
        self.assertEqual(write(self.meaning), ["none", "but a/s", "but a/s/t"])
        self.assertIs(type(raised(read, self.shut, write(self.meaning))), BadLine)
        self.assertEqual(listed(self.tree, ["+ a/s/*"]), Meaning(self.tree, False, ["i", "t"]))
        self.assertEqual(listed(self.shut, ["+ a/s/*"]), Meaning(self.shut, False))
        self.assertEqual(Row(self.tree, [("on", "s")])(self.meaning), Meaning(self.tree, False, ["s"]))
        self.assertEqual(moved(self.meaning, "e", "s", "meant").turns, ("s", "t", "e"))


class Moved(unittest.TestCase):

    def test_ways_and_order(self):
        tree = small_tree().moved("b", "top")
        self.assertEqual([row[0] for row in tree.rows()], ["a", "d", "e", "b", "c"])
        meaning = Meaning(tree, True, ["c", "a", "b"])
        self.assertEqual(write(meaning), ["all", "but a", "but b", "but b/c"])
        self.assertEqual(raised(read, tree, ["all", "but b", "but a"]).index, 2)
        self.assertEqual(tree.steps("c", "d"), ["a", "d", "b", "c"])
        self.assertEqual(list(sure(tree, {}, 0, True)), ["top", "a", "d", "e", "b", "c"])
        self.assertEqual(fewest_looks(tree, {"a": True, "d": True, "e": True}, 3, True), [("b", "c")])
        self.assertEqual(unseen(Counts(tree), meaning, "top", TABLE, []), ["top", "a", "d", "e", "b", "c"])

    def test_a_box_that_is_away(self):
        tree = small_tree().less("b")
        for work, values in ((Meaning, (tree, True, ["c"])), (why_sure, (tree, {}, 0, "c")),
                             (Counts(tree).on, (Meaning(tree, True), "c")),
                             (click, (Counts(tree), Meaning(tree, True), "top", TABLE, ["c"]))):
            error = raised(work, *values)
            self.assertEqual((type(error), error.box), (NoBox, "c"))
        self.assertEqual(raised(sure, tree, {"c": True}, 0).box, "c")
        self.assertEqual(raised(read, tree, ["all", "but a/b"]).index, 1)
        self.assertEqual(raised(listed, tree, ["+ a", "- a/b/*"]).index, 1)


class Unlike(unittest.TestCase):

    def test_a_changed_tree_is_unlike_the_one_before(self):
        tree = small_tree()
        new = ("n", "top", "item", 1)
        for other in (tree.more(new), tree.less("e"), tree.moved("c", "a"), tree.moved("e", "top").moved("a", "top")):
            here, there = Meaning(tree, True, ["a"]), Meaning(other, True, ["a"])
            row, behind = Row(tree, [("on", "a")]), Row(other, [("on", "a")])
            counts = Counts(tree)
            calls = [(parting, here, there), (middle, [here, here, there]), (row, there), (clash, row, behind),
                     (fewest_deeds, here, there), (join, here, row, behind), (join, there, row, behind),
                     (counts.on, there, "nope"), (counts.off, there, "a"), (counts.shows, there, "a"),
                     (counts.asks, there, "a"), (click, counts, there, "a", TABLE),
                     (unseen, counts, there, "a", {}, []),
                     (lambda: here ^ there,), (lambda: here & there,), (lambda: here | there,), (lambda: here - there,),
                     (lambda: row + behind,)]
            for work, *values in calls:
                self.assertIs(type(raised(work, *values)), UnlikeTrees)
            self.assertNotEqual(here, there)
            self.assertNotEqual(row, behind)

    def test_a_tree_that_is_as_before_again_is_like_it(self):
        tree = small_tree()
        again = tree.more(("n", "top", "item", 1)).less("n").moved("e", "a").moved("e", "top")
        self.assertEqual(again, tree)
        self.assertIsNone(parting(Meaning(again, True, ["a"]), Meaning(tree, True, ["a"])))
        self.assertEqual(Counts(again).on(Meaning(tree, True), "top"), (3, 3))
        self.assertEqual(Row(again, [("on", "a")]), Row(tree, [("flip", "a"), ("on", "a")]))


if __name__ == "__main__":
    unittest.main()
