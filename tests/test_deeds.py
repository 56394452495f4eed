"""[13] to [18]: rows of deeds, and two hands."""

import random
import unittest
from itertools import product

from samples import (NO_PLACES, all_meanings, places, raised, random_meaning, random_tree, sample_tree, small_tree,
                     tiny_tree, within)
from turnsets.deeds import Row, clash, fewest_deeds, idle, join
from turnsets.errors import BadDeed, Clash, LockedTree, UnlikeTrees
from turnsets.meanings import Meaning
from turnsets.trees import Tree

WORDS = ["on", "off", "flip"]
MAPS = {
    (False, False): "off", (False, True): "keep", (True, False): "flip", (True, True): "on",
}


def all_deeds(tree):
    return [(word, place) for word in WORDS for place in places(tree)]


def all_rows(tree, most):
    """Each row of at most so many deeds."""
    return [Row(tree, deeds) for many in range(most + 1) for deeds in product(all_deeds(tree), repeat=many)]


def random_deeds(chance, tree, many):
    return [(chance.choice(WORDS + ["flip"]), chance.choice(places(tree))) for at in range(many)]


def done(meaning, deeds):
    """The meaning behind the deeds, told by doing one behind the other to each value."""
    tree, values = meaning.tree, meaning.states()
    for word, place in deeds:
        for box in within(tree, place):
            values[box] = not values[box] if word == "flip" else word == "on"
    turns = [box for box in places(tree)[1:] if values[box] != values[tree.folder(box)]]
    return Meaning(tree, values["top"], turns)


def told_maps(row):
    """What the row does to each place, told by what it does to two meanings that are unlike everywhere."""
    off, on = done(Meaning(row.tree, False), row.deeds()), done(Meaning(row.tree, True), row.deeds())
    return {place: MAPS[off.value(place), on.value(place)] for place in places(row.tree)}


def told_entries(tree, maps):
    around = {place: "keep" if place == "top" else maps[tree.folder(place)] for place in maps}
    return {place: word for place, word in maps.items() if word != around[place]}


def reached(start, follow):
    """The dict from all that can be reached to the least number of steps."""
    found, edge = {start: 0}, [start]
    while edge:
        ahead = []
        for one in edge:
            for other in follow(one):
                if other not in found:
                    found[other] = found[one] + 1
                    ahead.append(other)
        edge = ahead
    return found


class Making(unittest.TestCase):

    def test_deeds_tree_and_len(self):
        tree = small_tree()
        row = Row(tree, [("on", "a"), ("flip", "top"), ("off", "c"), ("on", "a")])
        self.assertEqual(row.deeds(), [("on", "a"), ("flip", "top"), ("off", "c"), ("on", "a")])
        self.assertIs(type(row.deeds()), list)
        self.assertEqual({type(deed) for deed in row.deeds()}, {tuple})
        self.assertEqual(row.tree, tree)
        self.assertEqual(len(row), 4)
        self.assertEqual(len(Row(tree, [])), 0)
        self.assertEqual(Row(tree, ()).deeds(), [])

    def test_lists_and_tuples(self):
        tree = small_tree()
        for deeds in ([["on", "a"], ["flip", "top"]], (["on", "a"], ("flip", "top")), (("on", "a"), ("flip", "top"))):
            row = Row(tree, deeds)
            self.assertEqual(row.deeds(), [("on", "a"), ("flip", "top")])
            self.assertEqual({type(deed) for deed in row.deeds()}, {tuple})

    def test_later_changes_have_no_effect(self):
        deeds = [["on", "a"], ["flip", "top"]]
        row = Row(small_tree(), deeds)
        self.assertEqual(deeds, [["on", "a"], ["flip", "top"]])
        deeds[0][0] = "off"
        deeds.pop()
        row.deeds().append(("on", "b"))
        self.assertEqual(row.deeds(), [("on", "a"), ("flip", "top")])
        self.assertEqual(row, Row(small_tree(), [("on", "a"), ("flip", "top")]))

    def test_bad_deed(self):
        wrong = NO_PLACES + [
            "on", "onab", ("on",), ("on", "a", "b"), ["on"], ("on", "nobox"), ("keep", "a"), ("ON", "a"), ("a", "on"),
            (True, "a"), (None, "a"), (["on"], "a"), ({}, "a"), {"on": "a"}, {"on": 1, "a": 2}, ("on", None),
            ("on", ["a"]), ("on", ("top",)), ("on", {}), ("on", True), ("", "a"), (("on", "a"), ("on", "a")),
        ]
        for thing in wrong:
            for ahead in ([], [("on", "a")], [["flip", "top"], ("off", "e")]):
                for deeds in (ahead + [thing], tuple(ahead + [thing, None])):
                    error = raised(Row, small_tree(), deeds)
                    self.assertIs(type(error), BadDeed)
                    self.assertEqual(error.index, len(ahead))

    def test_no_list_of_deeds(self):
        for thing in (None, True, 0, "", "on", {}, {"on": "a"}, 7):
            error = raised(Row, small_tree(), thing)
            self.assertIs(type(error), BadDeed)
            self.assertEqual(error.index, 0)

    def test_locked_tree_ahead_of_bad_deed(self):
        for tree in (sample_tree(), Tree([("a", "top", "item", None)])):
            for deeds in ([], [("on", "top")], [None], None, [("on", "nobox")], {}):
                self.assertIs(type(raised(Row, tree, deeds)), LockedTree)

    def test_the_empty_tree(self):
        row = Row(Tree([]), [("flip", "top")])
        self.assertEqual(row.maps(), {"top": "flip"})
        self.assertEqual(row(Meaning(Tree([]), True)), Meaning(Tree([]), False))


class Doing(unittest.TestCase):

    def test_each_word(self):
        tree = small_tree()
        meaning = Meaning(tree, False, ["b", "e"])
        self.assertEqual(Row(tree, [("on", "a")])(meaning), Meaning(tree, False, ["a", "e"]))
        self.assertEqual(Row(tree, [("off", "a")])(meaning), Meaning(tree, False, ["e"]))
        self.assertEqual(Row(tree, [("flip", "a")])(meaning), Meaning(tree, False, ["a", "b", "e"]))
        self.assertEqual(Row(tree, [("on", "top")])(meaning), Meaning(tree, True))
        self.assertEqual(Row(tree, [("off", "top")])(meaning), Meaning(tree, False))
        self.assertEqual(Row(tree, [("flip", "top")])(meaning), ~meaning)
        self.assertEqual(Row(tree, [("on", "c")])(meaning), meaning)
        self.assertEqual(Row(tree, [("off", "c")])(meaning), Meaning(tree, False, ["b", "c", "e"]))
        self.assertEqual(Row(tree, [])(meaning), meaning)

    def test_one_behind_the_other(self):
        tree = small_tree()
        meaning = Meaning(tree, True)
        self.assertEqual(Row(tree, [("off", "a"), ("on", "c"), ("flip", "b")])(meaning),
                         Meaning(tree, True, ["a", "b", "c"]))
        self.assertEqual(Row(tree, [("on", "c"), ("flip", "b"), ("off", "a")])(meaning), Meaning(tree, True, ["a"]))

    def test_all_short_rows(self):
        tree = tiny_tree()
        meanings = all_meanings(tree)
        for row in all_rows(tree, 2):
            for meaning in meanings:
                self.assertEqual(row(meaning), done(meaning, row.deeds()))

    def test_long_rows(self):
        chance = random.Random(1)
        for at in range(40):
            tree = random_tree(chance, chance.randint(1, 40))
            deeds = random_deeds(chance, tree, chance.randint(0, 40))
            meaning = random_meaning(chance, tree)
            kept = Meaning(tree, meaning.default, meaning.turns)
            self.assertEqual(Row(tree, deeds)(meaning), done(meaning, deeds))
            self.assertEqual(meaning, kept)

    def test_newcomers(self):
        tree = small_tree()
        chance = random.Random(2)
        for meaning in all_meanings(tree):
            deeds = random_deeds(chance, tree, 4)
            behind = Row(tree, deeds)(meaning)
            for folder in ("top", "a", "b"):
                grown = tree.more(("new", folder, "item", 1))
                ahead = Meaning(grown, meaning.default, meaning.turns)
                self.assertEqual(Row(grown, deeds)(ahead), Meaning(grown, behind.default, behind.turns))

    def test_unlike_trees(self):
        row = Row(small_tree(), [("on", "a")])
        for tree in (small_tree().less("e"), small_tree().moved("e", "top").more(("n", "top", "item", 1)), Tree([]),
                     sample_tree()):
            self.assertIs(type(raised(row, Meaning(tree, True))), UnlikeTrees)


class Maps(unittest.TestCase):

    def test_maps(self):
        tree = small_tree()
        row = Row(tree, [("flip", "top"), ("on", "b"), ("flip", "c"), ("flip", "e")])
        told = {"top": "flip", "a": "flip", "b": "on", "c": "off", "d": "flip", "e": "keep"}
        self.assertEqual(list(row.maps().items()), list(told.items()))
        self.assertEqual(list(Row(tree, []).maps().items()), [(place, "keep") for place in places(tree)])

    def test_entries(self):
        tree = small_tree()
        row = Row(tree, [("flip", "top"), ("on", "b"), ("flip", "c"), ("flip", "e")])
        self.assertEqual(list(row.entries().items()), [("top", "flip"), ("b", "on"), ("c", "off"), ("e", "keep")])
        self.assertEqual(Row(tree, []).entries(), {})
        self.assertEqual(Row(tree, [("flip", "a"), ("flip", "a")]).entries(), {})
        self.assertEqual(Row(tree, [("on", "c"), ("on", "a")]).entries(), {"a": "on"})
        self.assertEqual(Row(tree, [("off", "top"), ("on", "top")]).entries(), {"top": "on"})

    def test_all_short_rows(self):
        tree = tiny_tree()
        for row in all_rows(tree, 3):
            maps = told_maps(row)
            self.assertEqual(list(row.maps().items()), list(maps.items()))
            self.assertEqual(list(row.entries().items()), list(told_entries(tree, maps).items()))

    def test_long_rows(self):
        chance = random.Random(3)
        for at in range(60):
            tree = random_tree(chance, chance.randint(0, 40))
            row = Row(tree, random_deeds(chance, tree, chance.randint(0, 40)))
            maps = told_maps(row)
            self.assertEqual(list(row.maps().items()), list(maps.items()))
            self.assertEqual(list(row.entries().items()), list(told_entries(tree, maps).items()))
            for box in places(tree)[1:]:
                if maps[tree.folder(box)] in ("on", "off"):
                    self.assertIn(maps[box], ("on", "off"))

    def test_new_dicts(self):
        row = Row(small_tree(), [("flip", "a")])
        row.maps()["a"] = "on"
        row.entries().clear()
        self.assertEqual(row.maps()["a"], "flip")
        self.assertEqual(row.entries(), {"a": "flip"})
        self.assertEqual(row, Row(small_tree(), [("flip", "a")]))

    def test_equal(self):
        tree = small_tree()
        one = Row(tree, [("on", "c"), ("flip", "b")])
        for deeds in ([("off", "c"), ("flip", "b"), ("off", "c")], [("flip", "b"), ("off", "c")]):
            self.assertTrue(one == Row(tree, deeds))
            self.assertFalse(one != Row(small_tree(), deeds))
        for deeds in ([], [("flip", "b"), ("on", "c")], [("off", "c")], [("flip", "b")]):
            self.assertFalse(one == Row(tree, deeds))
            self.assertTrue(one != Row(tree, deeds))

    def test_equal_exactly_if_they_do_the_same(self):
        tree = tiny_tree()
        rows = all_rows(tree, 2)
        behind = [tuple((done(meaning, row.deeds()).default, done(meaning, row.deeds()).turns)
                        for meaning in all_meanings(tree)) for row in rows]
        for one, told in zip(rows, behind):
            for other, also in zip(rows, behind):
                self.assertEqual(one == other, told == also)

    def test_rows_of_unequal_trees_are_unequal(self):
        tree = small_tree()
        for other in (tree.less("e"), tree.moved("e", "top").more(("n", "top", "item", 1)),
                      Tree([row[:3] + (9,) for row in tree.rows()])):
            for deeds in ([], [("on", "a")]):
                self.assertFalse(Row(tree, deeds) == Row(other, deeds))
                self.assertTrue(Row(tree, deeds) != Row(other, deeds))

    def test_a_row_equals_nothing_else(self):
        row = Row(small_tree(), [("on", "a")])
        for thing in NO_PLACES + [row.tree, row.deeds(), row.maps(), row.entries(), ("on", "a"), "top"]:
            self.assertFalse(row == thing)
            self.assertFalse(Row(small_tree(), []) == thing)

    def test_plus(self):
        tree = small_tree()
        one, other = Row(tree, [("on", "a"), ("flip", "c")]), Row(tree, [["flip", "b"]])
        self.assertEqual((one + other).deeds(), [("on", "a"), ("flip", "c"), ("flip", "b")])
        self.assertEqual((other + one).deeds(), [("flip", "b"), ("on", "a"), ("flip", "c")])
        self.assertEqual((one + one).deeds(), one.deeds() * 2)
        self.assertEqual((one + other).tree, tree)
        self.assertEqual((len(one), len(other), len(one + other)), (2, 1, 3))
        for meaning in all_meanings(tree):
            self.assertEqual((one + other)(meaning), other(one(meaning)))
            self.assertEqual((other + one)(meaning), one(other(meaning)))

    def test_plus_unlike_trees(self):
        one, other = Row(small_tree(), [("on", "a")]), Row(small_tree().less("e"), [("on", "a")])
        self.assertIs(type(raised(lambda: one + other)), UnlikeTrees)
        self.assertIs(type(raised(lambda: other + one)), UnlikeTrees)


class Least(unittest.TestCase):

    def held(self, row):
        """Holds the form of the least row against [15]."""
        least = row.least()
        self.assertIs(type(least), Row)
        self.assertEqual(least, row)
        words = {"on": "on", "off": "off", "flip": "flip", "keep": "flip"}
        entries = told_entries(row.tree, told_maps(row))
        self.assertEqual(least.deeds(), [(words[word], place) for place, word in entries.items()])
        self.assertEqual(told_maps(least), told_maps(row))
        return least

    def test_form(self):
        tree = small_tree()
        row = Row(tree, [("flip", "e"), ("flip", "top"), ("off", "c"), ("on", "b"), ("flip", "c"), ("on", "b")])
        self.assertEqual(row.least().deeds(), [("flip", "top"), ("on", "b"), ("flip", "e")])
        self.assertEqual(Row(tree, []).least().deeds(), [])
        self.assertEqual(Row(tree, [("flip", "a"), ("flip", "a")]).least().deeds(), [])
        self.held(row)

    def test_no_row_of_fewer_deeds_is_equal(self):
        tree = tiny_tree()
        deeds = all_deeds(tree)

        def key(row):
            return tuple(row.maps().items())

        def follow(maps):
            row = row_of[maps]
            for deed in deeds:
                other = Row(tree, row.deeds() + [deed])
                row_of.setdefault(key(other), other)
                yield key(other)

        start = Row(tree, [])
        row_of = {key(start): start}
        found = reached(key(start), follow)
        self.assertEqual(len(found), 112)
        for maps, many in found.items():
            self.assertEqual(len(self.held(row_of[maps])), many)

    def test_long_rows(self):
        chance = random.Random(4)
        for at in range(60):
            tree = random_tree(chance, chance.randint(0, 40))
            row = Row(tree, random_deeds(chance, tree, chance.randint(0, 40)))
            self.held(row)
            self.assertLessEqual(len(row.least()), len(row))

    def test_idle(self):
        tree = small_tree()
        self.assertEqual(idle(Row(tree, [])), [])
        self.assertEqual(idle(Row(tree, [("on", "a")])), [])
        self.assertEqual(idle(Row(tree, [("flip", "c"), ("on", "b"), ("off", "a"), ("off", "a")])), [0, 1, 2, 3])
        self.assertEqual(idle(Row(tree, [("on", "a"), ("on", "a"), ("flip", "e")])), [0, 1])
        self.assertEqual(idle(Row(tree, [("flip", "a"), ("flip", "a")])), [])
        self.assertEqual(idle(Row(tree, [("on", "a"), ("flip", "b"), ("off", "c"), ("on", "b"), ("on", "d")])),
                         [1, 2, 4])

    def test_idle_is_each_deed_by_itself(self):
        chance = random.Random(5)
        for at in range(150):
            tree = random_tree(chance, chance.randint(1, 8))
            deeds = random_deeds(chance, tree, chance.randint(0, 9))
            row = Row(tree, deeds)
            told = [index for index in range(len(deeds))
                    if told_maps(Row(tree, deeds[:index] + deeds[index + 1:])) == told_maps(row)]
            self.assertEqual(idle(row), told)
            self.assertEqual(row.deeds(), deeds)

    def test_idle_of_forty_deeds(self):
        chance = random.Random(6)
        tree = random_tree(chance, 40)
        row = Row(tree, random_deeds(chance, tree, 40))
        self.assertEqual(idle(row), sorted(idle(row)))
        self.assertEqual(idle(row + Row(tree, [("on", "top")])), list(range(40)))

    def test_undo(self):
        tree = small_tree()
        self.assertEqual(Row(tree, []).undo().deeds(), [])
        row = Row(tree, [("flip", "c"), ("flip", "top"), ("flip", "e"), ("flip", "e"), ("flip", "a")])
        self.assertEqual(row.undo().deeds(), [("flip", "top"), ("flip", "a"), ("flip", "c")])
        for deeds in ([("on", "c")], [("off", "top")], [("flip", "top"), ("on", "e"), ("flip", "e")]):
            self.assertIsNone(Row(tree, deeds).undo())

    def test_undo_of_all_short_rows(self):
        tree = tiny_tree()
        meanings = all_meanings(tree)
        for row in all_rows(tree, 3):
            firm = [word for word in told_maps(row).values() if word in ("on", "off")]
            undone = row.undo()
            self.assertEqual(undone is None, firm != [])
            if undone is not None:
                self.assertIs(type(undone), Row)
                self.assertEqual(undone.deeds(), undone.least().deeds())
                for meaning in meanings:
                    self.assertEqual(undone(row(meaning)), meaning)


class Clashes(unittest.TestCase):

    def test_clash(self):
        tree = small_tree()
        for one, other, place in (
                ([("on", "a")], [("off", "b")], "b"), ([("on", "a")], [("flip", "c")], "c"),
                ([("on", "c")], [("flip", "a")], "c"), ([("on", "top")], [("off", "e")], "e"),
                ([("on", "top")], [("flip", "top")], "top"), ([("flip", "top")], [("flip", "c")], None),
                ([("on", "a")], [("on", "top")], None), ([], [("on", "a")], None), ([("on", "a")], [("off", "e")], None),
                ([("on", "e"), ("on", "c")], [("off", "e"), ("off", "c")], "c"), ([], [], None)):
            self.assertEqual(clash(Row(tree, one), Row(tree, other)), place)
            self.assertEqual(clash(Row(tree, other), Row(tree, one)), place)

    def test_against_doing_both_in_either_order(self):
        tree = tiny_tree()
        meanings = all_meanings(tree)
        rows = all_rows(tree, 1) + all_rows(tree, 2)[5::7]
        for one, other in product(rows, rows):
            unlike = {}
            for meaning in meanings:
                ahead = done(done(meaning, one.deeds()), other.deeds())
                behind = done(done(meaning, other.deeds()), one.deeds())
                for place in places(tree):
                    if ahead.value(place) != behind.value(place):
                        unlike[place] = True
            told = [place for place in places(tree) if place in unlike]
            self.assertEqual(clash(one, other), told[0] if told else None)

    def test_unlike_trees(self):
        one, other = Row(small_tree(), []), Row(small_tree().less("e"), [])
        self.assertIs(type(raised(clash, one, other)), UnlikeTrees)
        self.assertIs(type(raised(clash, other, one)), UnlikeTrees)


class Fewest(unittest.TestCase):

    def told(self, one, other):
        """The deeds, found by going through all choices of a map for each place."""
        tree, best = one.tree, None
        ways = [(("keep" if one.value(place) == other.value(place) else "flip"), "on" if other.value(place) else "off")
                for place in places(tree)]
        for picks in product((0, 1), repeat=len(ways)):
            maps = {place: both[pick] for place, both, pick in zip(places(tree), ways, picks)}
            if any(maps[tree.folder(box)] in ("on", "off") and maps[box] not in ("on", "off")
                   for box in places(tree)[1:]):
                continue
            entries = told_entries(tree, maps)
            if best is None or (len(entries), picks) < best[0]:
                best = ((len(entries), picks), entries)
        return [(word if word in ("on", "off") else "flip", place) for place, word in best[1].items()]

    def test_against_all_choices_of_maps(self):
        tree = small_tree()
        meanings = all_meanings(tree)
        for one, other in product(meanings[::3], meanings):
            row = fewest_deeds(one, other)
            self.assertIs(type(row), Row)
            self.assertEqual(row(one), other)
            self.assertEqual(row.deeds(), self.told(one, other))

    def test_random_trees(self):
        chance = random.Random(7)
        for at in range(60):
            tree = random_tree(chance, chance.randint(0, 8))
            one, other = random_meaning(chance, tree), random_meaning(chance, tree)
            self.assertEqual(fewest_deeds(one, other).deeds(), self.told(one, other))

    def test_no_row_of_fewer_deeds_leads_there(self):
        tree = tiny_tree()
        meanings = {(meaning.default, meaning.turns): meaning for meaning in all_meanings(tree)}

        def follow(key):
            for deed in all_deeds(tree):
                behind = done(meanings[key], [deed])
                yield behind.default, behind.turns

        for start, one in meanings.items():
            found = reached(start, follow)
            for key, other in meanings.items():
                self.assertEqual(len(fewest_deeds(one, other)), found[key])

    def test_the_tie(self):
        tree = tiny_tree()
        for one, other, deeds in (
                (Meaning(tree, True), Meaning(tree, True), []),
                (Meaning(tree, True), Meaning(tree, False), [("flip", "top")]),
                (Meaning(tree, True), Meaning(tree, True, ["b"]), [("flip", "b")]),
                (Meaning(tree, True, ["b"]), Meaning(tree, True), [("flip", "b")]),
                (Meaning(tree, True, ["a"]), Meaning(tree, True), [("flip", "a")]),
                (Meaning(tree, True, ["b"]), Meaning(tree, True, ["a"]), [("off", "a")]),
                (Meaning(tree, True, ["b"]), Meaning(tree, True, ["a", "b"]), [("flip", "a")]),
                (Meaning(tree, True, ["b"]), Meaning(tree, True, ["a", "c"]), [("off", "a"), ("flip", "c")]),
                (Meaning(tree, True, ["c"]), Meaning(tree, False), [("off", "top")]),
                (Meaning(tree, True, ["c"]), Meaning(tree, False, ["c"]), [("flip", "top")]),
                (Meaning(tree, True, ["b", "c"]), Meaning(tree, True), [("on", "top")]),
                (Meaning(tree, True, ["a", "b", "c"]), Meaning(tree, False), [("off", "top")])):
            self.assertEqual(fewest_deeds(one, other).deeds(), deeds)

    def test_firm_where_it_needs_fewer(self):
        tree = Tree([("a", "top", "folder", 1), ("b", "a", "item", 1), ("c", "a", "item", 1), ("d", "a", "item", 1),
                     ("e", "top", "item", 1)])
        one, other = Meaning(tree, False, ["b", "c"]), Meaning(tree, False, ["a", "d", "e"])
        self.assertEqual(fewest_deeds(one, other).deeds(), [("on", "a"), ("off", "d"), ("flip", "e")])

    def test_forty_boxes(self):
        chance = random.Random(8)
        for at in range(20):
            tree = random_tree(chance, 40)
            one, other = random_meaning(chance, tree), random_meaning(chance, tree)
            row = fewest_deeds(one, other)
            self.assertEqual(done(one, row.deeds()), other)
            self.assertEqual(row.deeds(), row.least().deeds())
            # Of the rows that keep and flip alone there is one, and one of the deeds on and off alone.
            self.assertLessEqual(len(row), len((one ^ other).turns) + (one ^ other).default)
            self.assertLessEqual(len(row), len(other.turns) + 1)

    def test_errors(self):
        locked, free = Meaning(sample_tree(), True), Meaning(small_tree(), True)
        self.assertIs(type(raised(fewest_deeds, locked, free)), UnlikeTrees)
        self.assertIs(type(raised(fewest_deeds, free, locked)), UnlikeTrees)
        self.assertIs(type(raised(fewest_deeds, locked, Meaning(sample_tree().less("e"), True))), UnlikeTrees)
        self.assertIs(type(raised(fewest_deeds, free, Meaning(small_tree().less("e"), True))), UnlikeTrees)
        self.assertIs(type(raised(fewest_deeds, locked, locked)), LockedTree)
        self.assertIs(type(raised(fewest_deeds, locked, Meaning(sample_tree(), False))), LockedTree)


class TwoHands(unittest.TestCase):

    def told(self, meaning, one, other):
        """The values that [18] asks for, or the first place at which both tell otherwise."""
        values = meaning.states()
        for place in values:
            tells = []
            for row in (one, other):
                behind = done(meaning, row.deeds())
                if told_maps(row)[place] in ("on", "off") or behind.value(place) != meaning.value(place):
                    tells.append(behind.value(place))
            if True in tells and False in tells:
                return place
            values[place] = tells[0] if tells else meaning.value(place)
        return values

    def held(self, meaning, one, other):
        told = self.told(meaning, one, other)
        if isinstance(told, str):
            for error in (raised(join, meaning, one, other), raised(join, meaning, other, one)):
                self.assertIs(type(error), Clash)
                self.assertEqual(error.box, told)
        else:
            self.assertEqual(join(meaning, one, other).states(), told)
            self.assertEqual(join(meaning, other, one), join(meaning, one, other))

    def test_join(self):
        tree = small_tree()
        meaning = Meaning(tree, False, ["e"])
        self.assertEqual(join(meaning, Row(tree, [("on", "b")]), Row(tree, [("flip", "e")])),
                         Meaning(tree, False, ["b"]))
        self.assertEqual(join(meaning, Row(tree, [("flip", "a")]), Row(tree, [("flip", "a")])),
                         Meaning(tree, False, ["a", "e"]))
        self.assertEqual(join(meaning, Row(tree, [("flip", "a")]), Row(tree, [("on", "c")])),
                         Meaning(tree, False, ["a", "e"]))
        self.assertEqual(join(meaning, Row(tree, []), Row(tree, [])), meaning)
        self.assertEqual(join(meaning, Row(tree, [("on", "e")]), Row(tree, [("on", "top"), ("off", "a")])),
                         Meaning(tree, True, ["a"]))

    def test_clash(self):
        tree = small_tree()
        meaning = Meaning(tree, False, ["e"])
        for one, other, place in (
                ([("on", "a")], [("off", "b")], "b"), ([("off", "e"), ("off", "c")], [("on", "top")], "c"),
                ([("flip", "e")], [("on", "e")], "e"), ([("flip", "top")], [("off", "a")], "a"),
                ([("on", "top")], [("off", "top")], "top"), ([("flip", "top")], [("on", "e")], "e"),
                ([("off", "c")], [("flip", "b")], "c")):
            for error in (raised(join, meaning, Row(tree, one), Row(tree, other)),
                          raised(join, meaning, Row(tree, other), Row(tree, one))):
                self.assertIs(type(error), Clash)
                self.assertEqual(error.box, place)

    def test_what_is_kept_is_not_told(self):
        tree = small_tree()
        kept = Row(tree, [("flip", "a"), ("flip", "a")])
        self.assertEqual(join(Meaning(tree, False), kept, Row(tree, [("on", "a")])), Meaning(tree, False, ["a"]))

    def test_what_was_so_before_is_told(self):
        tree = small_tree()
        error = raised(join, Meaning(tree, False), Row(tree, [("off", "a")]), Row(tree, [("on", "c")]))
        self.assertIs(type(error), Clash)
        self.assertEqual(error.box, "c")

    def test_all_short_rows(self):
        tree = tiny_tree()
        rows = all_rows(tree, 1) + all_rows(tree, 2)[3::11]
        for meaning in all_meanings(tree)[::3]:
            for one, other in product(rows, rows):
                self.held(meaning, one, other)

    def test_random_trees(self):
        chance = random.Random(9)
        for at in range(200):
            tree = random_tree(chance, chance.randint(0, 12))
            one, other = [Row(tree, random_deeds(chance, tree, chance.randint(0, 4))) for side in range(2)]
            self.held(random_meaning(chance, tree), one, other)

    def test_what_is_passed_is_not_changed(self):
        tree = small_tree()
        meaning, row = Meaning(tree, False, ["e"]), Row(tree, [("on", "a")])
        join(meaning, row, row)
        fewest_deeds(meaning, ~meaning)
        clash(row, row)
        self.assertEqual(meaning, Meaning(tree, False, ["e"]))
        self.assertEqual(meaning.states(), Meaning(tree, False, ["e"]).states())
        self.assertEqual(row.maps(), Row(tree, [("on", "a")]).maps())

    def test_unlike_trees(self):
        one, other = small_tree(), small_tree().less("e")
        clashing = ([("on", "a")], [("off", "a")])
        for trees in ((one, one, other), (one, other, one), (other, one, one), (one, other, other)):
            meaning = Meaning(trees[0], True)
            self.assertIs(type(raised(join, meaning, Row(trees[1], []), Row(trees[2], []))), UnlikeTrees)
            rows = [Row(tree, deeds) for tree, deeds in zip(trees[1:], clashing)]
            self.assertIs(type(raised(join, meaning, rows[0], rows[1])), UnlikeTrees)


if __name__ == "__main__":
    unittest.main()
