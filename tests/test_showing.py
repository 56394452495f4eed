"""[31] to [34]: what boxes show, what is asked, and clicks."""

import random
import unittest
from itertools import product

from samples import (NO_PLACES, all_meanings, places, raised, random_meaning, random_tree, sample_tree, small_tree,
                     within)
from turnsets.errors import BadRange, BadTable, Locked, NoBox, NotSure, UnlikeTrees
from turnsets.meanings import Meaning
from turnsets.showing import Counts, click, unseen
from turnsets.trees import Tree

SHOWN = ["on", "off", "part", "none"]
WORDS = ["on", "off", "flip", "keep"]
USUAL = {"on": "off", "off": "on", "part": "on", "none": "flip"}
NO_RANGES = NO_PLACES + ["top", "12", (1,), [0], (0, 1, 2), (2, 1), [1, 0], (-1, 0), (-1, None), (0, -1), (None, None),
                         (None, 1), (True, 1), (False, None), (0, True), (0, False), ("0", 1), (0, "1"), ([0], 1),
                         (0, [1]), {0: 1, 1: 2}, {0, 1}, (0, {})]


def shut_tree():
    """Shut folders on different levels, items beside them, a locked box in each folder."""
    return Tree([
        ("a", "top", "folder", 1),
        ("s", "a", "shut", 2),
        ("i", "a", "item", 3),
        ("b", "a", "folder", 4),
        ("t", "b", "shut", 5),
        ("l", "b", "item", None),
        ("u", "top", "shut", 6),
        ("e", "top", "folder", 7),
    ])


def kinds(tree):
    return {row[0]: row[2] for row in tree.rows()}


def shut_within(tree, box):
    return [place for place in within(tree, box) if kinds(tree).get(place) == "shut"]


def cut(pair):
    """The numbers of a range, the first few where it has no end."""
    least, most = pair
    return range(least, least + 3 if most is None else most + 1)


def word_for(many_on, many_off):
    return {(True, True): "part", (True, False): "on", (False, True): "off", (False, False): "none"}[
        many_on > 0, many_off > 0]


def numbers_with(meaning, box, numbers):
    """How many items within the box are on and how many are off, if the shut folders hold these numbers."""
    many = {True: 0, False: 0}
    for place in within(meaning.tree, box):
        kind = kinds(meaning.tree).get(place)
        many[meaning.value(place)] += 1 if kind == "item" else numbers[place] if kind == "shut" else 0
    return many[True], many[False]


def all_numbers(tree, ranges, box):
    """Each dict from the shut folders within the box to numbers in their ranges."""
    names = shut_within(tree, box)
    for numbers in product(*[cut(ranges.get(name, (0, None))) for name in names]):
        yield dict(zip(names, numbers))


def random_ranges(chance, tree):
    ranges = {}
    for name in shut_within(tree, "top"):
        least = chance.choice([0, 0, 0, 1, 2])
        ranges[name] = (least, chance.choice([None, least, least + 1, least + 2]))
        if chance.random() < 0.2:
            del ranges[name]
    return ranges


def random_table(chance):
    return {word: chance.choice(WORDS) for word in SHOWN}


def told_click(meaning, places_done, word):
    """The values behind a word that is done to these places; a turn at a locked box is told by its name."""
    values = meaning.states()
    for place in places_done:
        values[place] = {"on": True, "off": False, "flip": not values[place], "keep": values[place]}[word]
    return values


def first_locked(tree, values):
    """The first locked box, in order, that would need a turn."""
    for name, folder, kind, price in tree.rows():
        if price is None and values[name] != values[folder]:
            return name
    return None


class Numbers(unittest.TestCase):

    def held(self, meaning, ranges, box):
        """Holds on, off, shows and asks against going through all numbers of items."""
        tree, counts = meaning.tree, Counts(meaning.tree, ranges)
        many = [numbers_with(meaning, box, numbers) for numbers in all_numbers(tree, ranges, box)]
        endless = {value: any(ranges.get(name, (0, None))[1] is None and meaning.value(name) is value
                              for name in shut_within(tree, box)) for value in (True, False)}
        for at, value, told in ((0, True, counts.on(meaning, box)), (1, False, counts.off(meaning, box))):
            most = None if endless[value] else max(pair[at] for pair in many)
            self.assertEqual(told, (min(pair[at] for pair in many), most))
            self.assertIs(type(told), tuple)
        shown = counts.shows(meaning, box)
        self.assertEqual(shown, sorted({word_for(*pair) for pair in many}))
        self.assertIs(type(shown), list)
        self.assertEqual(counts.asks(meaning, box), self.told_asks(meaning, ranges, box))
        self.assertEqual(len(shown) == 1, counts.asks(meaning, box) == [])

    def told_asks(self, meaning, ranges, box):
        asked = []
        for name in shut_within(meaning.tree, box):
            seen = {}
            for numbers in all_numbers(meaning.tree, ranges, box):
                word = word_for(*numbers_with(meaning, box, numbers))
                others = tuple(numbers[other] for other in numbers if other != name)
                seen.setdefault(others, set()).add(word)
            if any(len(words) > 1 for words in seen.values()):
                asked.append(name)
        return asked

    def test_all_meanings_of_a_tree(self):
        tree = shut_tree()
        for ranges in ({}, {"s": (0, 0), "t": (0, 2)}, {"s": (1, None), "u": (0, 1)}, {"t": (2, 2), "s": (0, 0)}):
            for meaning in all_meanings(tree):
                for box in places(tree):
                    self.held(meaning, ranges, box)

    def test_random_trees(self):
        chance = random.Random(1)
        for at in range(150):
            tree = random_tree(chance, chance.randint(0, 8), 20)
            ranges, meaning = random_ranges(chance, tree), random_meaning(chance, tree)
            for box in places(tree):
                self.held(meaning, ranges, box)

    def test_examples(self):
        tree = shut_tree()
        meaning = Meaning(tree, True, ["s", "b"])
        counts = Counts(tree, {"s": (2, 5), "t": (0, 10 ** 9), "u": (3, None)})
        self.assertEqual(counts.tree, tree)
        self.assertEqual(counts.on(meaning, "top"), (4, None))
        self.assertEqual(counts.off(meaning, "top"), (3, 10 ** 9 + 6))
        self.assertEqual(counts.on(meaning, "a"), (1, 1))
        self.assertEqual(counts.off(meaning, "b"), (1, 10 ** 9 + 1))
        self.assertEqual((counts.on(meaning, "s"), counts.off(meaning, "s")), ((0, 0), (2, 5)))
        self.assertEqual((counts.on(meaning, "i"), counts.off(meaning, "i")), ((1, 1), (0, 0)))
        self.assertEqual((counts.on(meaning, "e"), counts.off(meaning, "e")), ((0, 0), (0, 0)))
        self.assertEqual(counts.shows(meaning, "t"), ["none", "off"])
        self.assertEqual(counts.asks(meaning, "t"), ["t"])
        self.assertEqual([counts.shows(meaning, box) for box in ("top", "a", "b", "s", "u", "i", "e")],
                         [["part"], ["part"], ["off"], ["off"], ["on"], ["on"], ["none"]])
        self.assertEqual([counts.asks(meaning, box) for box in ("top", "a", "b", "e")], [[], [], [], []])

    def test_all_four_may_be_shown(self):
        tree = Tree([("z", "top", "shut", 1), ("y", "top", "shut", 1)])
        meaning = Meaning(tree, True, ["z"])
        self.assertEqual(Counts(tree).shows(meaning, "top"), ["none", "off", "on", "part"])
        self.assertEqual(Counts(tree).asks(meaning, "top"), ["z", "y"])
        self.assertEqual(Counts(tree, {"y": (1, 1)}).shows(meaning, "top"), ["on", "part"])
        self.assertEqual(Counts(tree, {"y": (1, 1)}).asks(meaning, "top"), ["z"])

    def test_two_of_one_value_ask_both(self):
        tree = Tree([("z", "top", "shut", 1), ("y", "top", "shut", 1), ("x", "top", "shut", 1)])
        meaning = Meaning(tree, True)
        self.assertEqual(Counts(tree).asks(meaning, "top"), ["z", "y", "x"])
        self.assertEqual(Counts(tree, {"x": (0, 0)}).asks(meaning, "top"), ["z", "y"])
        self.assertEqual(Counts(tree, {"x": (1, None)}).asks(meaning, "top"), [])

    def test_sums_beyond_the_limit_of_a_range(self):
        tree = Tree([("s" + chr(97 + at), "top", "shut", 1) for at in range(26)])
        counts = Counts(tree, {name: (10 ** 9, 10 ** 9) for name in places(tree)[1:]})
        self.assertEqual(counts.on(Meaning(tree, True), "top"), (26 * 10 ** 9, 26 * 10 ** 9))

    def test_no_ranges(self):
        tree = shut_tree()
        meaning = Meaning(tree, False)
        for counts in (Counts(tree), Counts(tree, None), Counts(tree, {})):
            self.assertEqual(counts.off(meaning, "s"), (0, None))
            self.assertEqual(counts.off(meaning, "top"), (2, None))
            self.assertEqual(counts.on(meaning, "top"), (0, 0))

    def test_later_changes_have_no_effect(self):
        tree, ranges = shut_tree(), {"s": [1, 2]}
        counts, meaning = Counts(tree, ranges), Meaning(tree, True)
        self.assertEqual(ranges, {"s": [1, 2]})
        ranges["s"][0] = 0
        ranges["t"] = (7, 7)
        self.assertEqual(counts.on(meaning, "s"), (1, 2))
        self.assertEqual(counts.on(meaning, "t"), (0, None))
        counts.shows(meaning, "t").clear()
        counts.asks(meaning, "t").clear()
        self.assertEqual((counts.shows(meaning, "t"), counts.asks(meaning, "t")), (["none", "on"], ["t"]))


class WrongCounts(unittest.TestCase):

    def test_bad_range(self):
        for thing in NO_RANGES:
            for ranges in ({"s": thing}, {"u": (0, 1), "s": thing, "a": (0, 1)}, {"s": thing, "t": (3, 2)}):
                error = raised(Counts, shut_tree(), ranges)
                self.assertEqual((type(error), error.box), (BadRange, "s"))

    def test_a_key_that_is_no_shut_folder(self):
        for thing in NO_PLACES + ["top", "a", "i", "l", "e", 7, ("s",)]:
            try:
                hash(thing)
            except TypeError:
                continue
            for ranges in ({thing: (0, 1)}, {"s": (1, None), thing: (0, 0), "t": 5}, {thing: None}):
                error = raised(Counts, shut_tree(), ranges)
                self.assertIs(type(error), BadRange)
                self.assertIs(error.box, thing)

    def test_good_ranges(self):
        for pair in ((0, 0), [0, None], (10 ** 9, 10 ** 9), [10 ** 9, None], (0, 10 ** 9)):
            self.assertEqual(Counts(shut_tree(), {"t": pair}).on(Meaning(shut_tree(), True), "t"), tuple(pair))

    def test_unlike_trees_and_no_box(self):
        counts = Counts(shut_tree())
        for work in (counts.on, counts.off, counts.shows, counts.asks):
            for thing in NO_PLACES + ["a", "top"]:
                self.assertIs(type(raised(work, Meaning(small_tree(), True), thing)), UnlikeTrees)
            for thing in NO_PLACES:
                error = raised(work, Meaning(shut_tree(), True), thing)
                self.assertIs(type(error), NoBox)
                self.assertIs(error.box, thing)


class Clicks(unittest.TestCase):

    def held(self, work, told, *values):
        """Holds the meaning behind a click against the told values."""
        tree = values[1].tree
        locked = first_locked(tree, told)
        if locked is not None:
            error = raised(work, *values)
            self.assertEqual((type(error), error.box), (Locked, locked))
            return "locked"
        behind = work(*values)
        self.assertIs(type(behind), Meaning)
        self.assertEqual((behind.tree, behind.states()), (tree, told))
        return "done"

    def plain(self, counts, meaning, box, table):
        """A click without seen, and unseen, against their words."""
        shown = counts.shows(meaning, box)
        if len(shown) > 1:
            for error in (raised(click, counts, meaning, box, table),
                          raised(unseen, counts, meaning, box, table, [])):
                self.assertEqual((type(error), error.box), (NotSure, box))
            return "not sure"
        told = told_click(meaning, within(meaning.tree, box), table[shown[0]])
        answer = self.held(click, told, counts, meaning, box, table)
        self.assertEqual(self.held(click, told, counts, meaning, box, table, None), answer)
        return answer

    def some(self, counts, meaning, box, table, seen):
        """A click with seen against its words."""
        items = [item for item in seen if item in within(meaning.tree, box)]
        values = [meaning.value(item) for item in items]
        word = table[word_for(values.count(True), values.count(False))]
        return self.held(click, told_click(meaning, set(items), word), counts, meaning, box, table, seen)

    def rest(self, counts, meaning, box, table, seen):
        """What a click changes outside of seen, against its words."""
        shown = counts.shows(meaning, box)
        told = told_click(meaning, within(meaning.tree, box), table[shown[0]])
        locked = first_locked(meaning.tree, told)
        if len(shown) > 1 or locked is not None:
            error = raised(unseen, counts, meaning, box, table, seen)
            self.assertEqual((type(error), error.box), (NotSure, box) if len(shown) > 1 else (Locked, locked))
            return
        changed = [place for place in places(meaning.tree)
                   if told[place] != meaning.value(place) and place not in seen]
        self.assertEqual(unseen(counts, meaning, box, table, seen), changed)

    def test_random_clicks(self):
        chance, answers = random.Random(2), []
        for at in range(300):
            tree = random_tree(chance, chance.randint(0, 9), 20)
            counts, meaning = Counts(tree, random_ranges(chance, tree)), random_meaning(chance, tree)
            items = [name for name, kind in kinds(tree).items() if kind == "item"]
            for box in places(tree):
                table = random_table(chance)
                seen = [item for item in chance.sample(items, len(items)) + items[:2] if chance.random() < 0.6]
                answers.append(self.plain(counts, meaning, box, table))
                answers.append(self.some(counts, meaning, box, table, seen))
                self.rest(counts, meaning, box, table, seen)
        for answer in ("done", "locked", "not sure"):
            self.assertGreater(answers.count(answer), 30, answer)

    def test_each_word_for_all_that_is_shown(self):
        tree = Tree([("a", "top", "folder", 1), ("b", "a", "item", 1), ("c", "a", "item", 1),
                     ("d", "top", "folder", 1)])
        counts = Counts(tree)
        for box, turns, shown in (("a", [], "on"), ("a", ["a"], "off"), ("a", ["c"], "part"), ("d", [], "none"),
                                  ("top", ["a", "d"], "off"), ("top", ["b"], "part"), ("b", ["b"], "off")):
            meaning = Meaning(tree, True, turns)
            self.assertEqual(counts.shows(meaning, box), [shown])
            for word in WORDS:
                table = {other: "keep" if word != "keep" else "flip" for other in SHOWN}
                table[shown] = word
                told = told_click(meaning, within(tree, box), word)
                self.assertEqual(click(counts, meaning, box, table).states(), told)

    def test_a_click_on_the_top_is_for_all_to_come(self):
        tree = small_tree()
        meaning = Meaning(tree, False, ["c"])
        self.assertEqual(click(Counts(tree), meaning, "top", USUAL), Meaning(tree, True))
        self.assertEqual(click(Counts(tree), meaning, "c", USUAL), Meaning(tree, False))
        self.assertEqual(click(Counts(tree), meaning, "b", USUAL), Meaning(tree, False))
        self.assertEqual(click(Counts(tree), Meaning(tree, True), "top", USUAL), Meaning(tree, False))

    def test_seen(self):
        tree = small_tree()
        counts, meaning = Counts(tree), Meaning(tree, False, ["c"])
        self.assertEqual(click(counts, meaning, "top", USUAL, ["c"]), Meaning(tree, False))
        self.assertEqual(click(counts, meaning, "top", USUAL, ["c", "e"]), Meaning(tree, False, ["c", "e"]))
        self.assertEqual(click(counts, meaning, "top", USUAL, ("d", "e")), Meaning(tree, False, ["c", "d", "e"]))
        self.assertEqual(click(counts, meaning, "a", USUAL, ["e", "c"]), Meaning(tree, False))
        self.assertEqual(click(counts, meaning, "d", USUAL, ["d", "e"]), Meaning(tree, False, ["c", "d"]))
        flip = {word: "flip" for word in SHOWN}
        self.assertEqual(click(counts, meaning, "a", flip, ["d", "c", "d", "e", "d"]), Meaning(tree, False, ["d"]))
        for seen in ([], (), ["e"]):
            self.assertEqual(click(counts, meaning, "a", flip, seen), meaning)

    def test_with_seen_all_is_sure(self):
        tree = shut_tree()
        meaning = Meaning(tree, False)
        self.assertIs(type(raised(click, Counts(tree), meaning, "u", USUAL)), NotSure)
        self.assertEqual(click(Counts(tree), meaning, "u", USUAL, []), meaning)
        self.assertEqual(click(Counts(tree), meaning, "top", USUAL, ["i"]), Meaning(tree, False, ["i"]))

    def test_unseen(self):
        tree = small_tree()
        counts, meaning = Counts(tree), Meaning(tree, False, ["c"])
        self.assertEqual(unseen(counts, meaning, "top", USUAL, ["d"]), ["top", "a", "b", "e"])
        self.assertEqual(unseen(counts, meaning, "top", USUAL, []), ["top", "a", "b", "d", "e"])
        self.assertEqual(unseen(counts, meaning, "b", USUAL, ["c"]), [])
        self.assertEqual(unseen(counts, meaning, "b", USUAL, ("e", "d")), ["c"])
        self.assertEqual(unseen(counts, meaning, "a", {word: "keep" for word in SHOWN}, []), [])

    def test_locked(self):
        tree = Tree([("a", "top", "folder", None), ("b", "a", "item", None), ("c", "a", "item", 1),
                     ("d", "top", "folder", 2), ("e", "d", "item", None), ("f", "d", "item", None)])
        counts, meaning = Counts(tree), Meaning(tree, True, ["c", "d"])
        flip = {word: "flip" for word in SHOWN}
        for box, seen, locked in (("a", None, "a"), ("b", None, "b"), ("d", ["f", "e"], "e"), ("top", ["f", "b"], "b"),
                                  ("e", None, "e"), ("top", ["f"], "f")):
            error = raised(click, counts, meaning, box, flip, seen)
            self.assertEqual((type(error), error.box), (Locked, locked))
        for box in ("a", "b", "e"):
            error = raised(unseen, counts, meaning, box, flip, ["c"])
            self.assertEqual((type(error), error.box), (Locked, box))
        self.assertEqual(click(counts, meaning, "d", flip), Meaning(tree, True, ["c"]))
        self.assertEqual(click(counts, meaning, "top", flip), Meaning(tree, False, ["c", "d"]))
        self.assertEqual(click(counts, meaning, "c", flip), Meaning(tree, True, ["d"]))


class WrongClicks(unittest.TestCase):

    def setUp(self):
        self.tree = shut_tree()
        self.counts, self.meaning = Counts(self.tree), Meaning(self.tree, False)

    def calls(self, meaning, box, table, seen):
        return [(click, self.counts, meaning, box, table, seen), (unseen, self.counts, meaning, box, table, seen)]

    def test_unlike_trees_ahead_of_all(self):
        for box in ("top", "nope", None):
            for table in (USUAL, {}):
                for seen in (["i"], ["nope"]):
                    for work, *values in self.calls(Meaning(sample_tree(), True), box, table, seen):
                        self.assertIs(type(raised(work, *values)), UnlikeTrees)

    def test_no_box_ahead_of_the_table(self):
        for thing in NO_PLACES:
            for table in (USUAL, {}, {"on": None}):
                for seen in (["i"], ["nope"]):
                    for work, *values in self.calls(self.meaning, thing, table, seen):
                        error = raised(work, *values)
                        self.assertIs(type(error), NoBox)
                        self.assertIs(error.box, thing)

    def test_bad_table(self):
        wrong = [{}, {"keep": "on"}] + [{"on": value} for value in NO_PLACES + ["top", "part", "none", "ON"]]
        for at, word in enumerate(SHOWN):
            for last in wrong:
                table = {other: "flip" for other in SHOWN[:at]}
                if "on" in last:
                    table[word] = last["on"]
                for seen in (["i"], ["nope", "a"]):
                    for work, *values in self.calls(self.meaning, "u", table, seen):
                        error = raised(work, *values)
                        self.assertEqual((type(error), error.word), (BadTable, word))
                error = raised(click, self.counts, self.meaning, "u", table)
                self.assertEqual((type(error), error.word), (BadTable, word))

    def test_the_order_of_the_table_does_not_count(self):
        for table in ({"none": "on", "part": 1, "off": "OFF", "on": "on"},
                      {"none": 0, "part": 1, "off": 2, "on": "keep"}):
            error = raised(click, self.counts, self.meaning, "a", table, ["i"])
            self.assertEqual((type(error), error.word), (BadTable, "off"))

    def test_more_keys_do_no_harm(self):
        table = {"more": 7, None: None, 1: [], **USUAL}
        self.assertEqual(click(self.counts, self.meaning, "i", table), Meaning(self.tree, False, ["i"]))

    def test_no_box_in_seen_ahead_of_not_sure(self):
        for thing in NO_PLACES + ["top", "a", "s", "u", "e"]:
            for seen in ([thing], ["i", thing, "nope"], ("l", "i", thing, "top")):
                for box in ("u", "top", "l"):
                    for work, *values in self.calls(self.meaning, box, USUAL, seen):
                        error = raised(work, *values)
                        self.assertIs(type(error), NoBox)
                        self.assertIs(error.box, thing)

    def test_not_sure_ahead_of_locked(self):
        tree = Tree([("a", "top", "shut", None), ("b", "top", "item", 1)])
        counts, meaning = Counts(tree), Meaning(tree, False)
        flip = {word: "flip" for word in SHOWN}
        error = raised(click, counts, meaning, "a", flip)
        self.assertEqual((type(error), error.box), (NotSure, "a"))
        error = raised(unseen, counts, meaning, "a", flip, ["b"])
        self.assertEqual((type(error), error.box), (NotSure, "a"))
        error = raised(click, Counts(tree, {"a": (1, 2)}), meaning, "a", flip)
        self.assertEqual((type(error), error.box), (Locked, "a"))
        self.assertEqual(click(counts, meaning, "top", flip), Meaning(tree, True))

    def test_what_is_passed_is_not_changed(self):
        table, seen = dict(USUAL), ["i", "l", "i"]
        click(self.counts, self.meaning, "i", table, seen)
        unseen(self.counts, self.meaning, "i", table, seen)
        self.assertEqual((table, seen), (USUAL, ["i", "l", "i"]))
        self.assertEqual(self.meaning, Meaning(shut_tree(), False))
        self.assertEqual(self.counts.off(self.meaning, "u"), (0, None))


if __name__ == "__main__":
    unittest.main()
