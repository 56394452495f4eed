"""Trees and objects that several tests use."""

from itertools import product

from turnsets.meanings import Meaning
from turnsets.trees import Tree

ROWS = [
    ("a", "top", "folder", 1),
    ("b", "a", "item", 2),
    ("x", "top", "folder", 3),
    ("c", "a", "folder", 4),
    ("d", "c", "item", None),
    ("s", "x", "shut", 5),
    ("e", "top", "item", 6),
    ("f", "c", "shut", None),
]

# No one of these is a box of any tree, nor the top.
NO_PLACES = [
    None, True, False, 0, 1, -1, "", "nobox", "A", "Top", "a ", [], ["a"], ["top"], (), ("a",), ("top",),
    {}, {"a": 1}, [{"a": ["b"]}], ("a", ["b"]), (("a", 1), {}),
]


def sample_tree():
    return Tree(list(ROWS))


def small_tree():
    """A folder in a folder, an item in each of them, an item in the top: no locked box."""
    return Tree([
        ("a", "top", "folder", 1),
        ("b", "a", "folder", 2),
        ("c", "b", "item", 3),
        ("d", "a", "item", 4),
        ("e", "top", "item", 5),
    ])


def all_meanings(tree):
    """Returns each meaning of the tree, told by its turns."""
    boxes = [row[0] for row in tree.rows() if row[3] is not None]
    meanings = []
    for default in (False, True):
        for picks in product((False, True), repeat=len(boxes)):
            turns = [box for box, pick in zip(boxes, picks) if pick]
            meanings.append(Meaning(tree, default, turns))
    return meanings


def raised(work, *values, **named):
    """Returns the error of the package that a call raises."""
    from turnsets.errors import BoxError
    try:
        work(*values, **named)
    except BoxError as error:
        return error
    raise AssertionError("no error was raised")


def tiny_tree():
    """A folder with an item, and an item in the top."""
    return Tree([("a", "top", "folder", 1), ("b", "a", "item", 1), ("c", "top", "item", 1)])


def places(tree):
    return ["top"] + [row[0] for row in tree.rows()]


def within(tree, place):
    """The place itself and all below it."""
    return [other for other in places(tree) if place == "top" or place in tree.way(other)]


def random_tree(chance, many, locked=0, most=9):
    """A tree of so many boxes; of a hundred of them so many are locked; prices up to most."""
    rows, folders = [], ["top"]
    for at in range(many):
        name = "b" + chr(97 + at // 26) + chr(97 + at % 26)
        kind = chance.choice(["folder", "folder", "item", "shut"])
        price = None if chance.randrange(100) < locked else chance.randint(1, most)
        rows.append((name, chance.choice(folders[-4:] + ["top"]), kind, price))
        if kind == "folder":
            folders.append(name)
    return Tree(rows)


def random_meaning(chance, tree):
    free = [row[0] for row in tree.rows() if row[3] is not None]
    return Meaning(tree, chance.random() < 0.5, [box for box in free if chance.random() < 0.5])


def example_tree():
    return Tree([("a", "top", "folder", 1), ("b", "a", "item", 1), ("c", "a", "item", 1), ("d", "a", "item", 1)])


def keeping(meanings, wish, default):
    return [meaning for meaning in meanings if default in (None, meaning.default)
            and all(meaning.value(place) == value for place, value in wish.items())]


def ends_of(wish, default):
    return dict(wish) if default is None else {**wish, "top": default}


def told_ways(tree, wish, default, ways):
    """Tells whether the ways are such a list as [25] says, told by its words."""
    ends, borne = ends_of(wish, default), {}
    for amount, one, other in ways:
        if amount < 1 or ends[one] is not True or ends[other] is not False:
            return False
        for box in set(tree.way(one)) ^ set(tree.way(other)):
            borne[box] = borne.get(box, 0) + amount
    return all(tree.price(box) is None or many <= tree.price(box) for box, many in borne.items())


def random_wish(chance, tree, share):
    return {place: chance.random() < 0.5 for place in chance.sample(places(tree), len(places(tree)))
            if chance.random() < share}
