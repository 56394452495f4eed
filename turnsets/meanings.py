"""Meanings: which boxes of a tree are on, now and for all that will ever come into it."""

from turnsets.errors import BadDefault, Locked, UnlikeTrees
from turnsets.trees import TOP, check_box, check_place


def check_turns(tree, turns):
    """Raises NoBox for the first of turns that is no box, then Locked for the first that is locked."""
    for box in turns:
        check_box(tree, box)
    for box in turns:
        if tree.price(box) is None:
            raise Locked(box)


def check_trees(one, other):
    """Raises UnlikeTrees if two meanings, or whatever has a tree, are of unequal trees."""
    if one.tree != other.tree:
        raise UnlikeTrees()


def values_of(tree, default, turns):
    """Returns the dict from the top and the boxes, in order, to their values."""
    values = {TOP: default}
    for box in tree.below(TOP):
        values[box] = values[tree.folder(box)] != (box in turns)
    return values


def with_values(tree, values):
    """Returns the meaning in which the top and the boxes have these values."""
    turns = [box for box in tree.below(TOP) if values[box] != values[tree.folder(box)]]
    return Meaning(tree, values[TOP], turns)


class Meaning:
    """A default for the top, and turns: boxes that are not as their folders are."""

    def __init__(self, tree, default, turns=()):
        if not isinstance(default, bool):
            raise BadDefault()
        check_turns(tree, turns)
        self.tree = tree
        self.default = default
        self.turns = tuple([box for box in tree.below(TOP) if box in turns])
        self.known = values_of(tree, default, self.turns)

    def __eq__(self, other):
        return (isinstance(other, Meaning) and self.tree == other.tree
                and self.default == other.default and self.turns == other.turns)

    def __len__(self):
        return len(self.turns)

    def __iter__(self):
        return iter(self.turns)

    def __contains__(self, x):
        return isinstance(x, str) and self.known.get(x, False)

    def __xor__(self, other):
        check_trees(self, other)
        return with_values(self.tree, {box: self.known[box] != other.known[box] for box in self.known})

    def __and__(self, other):
        check_trees(self, other)
        return with_values(self.tree, {box: self.known[box] and other.known[box] for box in self.known})

    def __or__(self, other):
        check_trees(self, other)
        return with_values(self.tree, {box: self.known[box] or other.known[box] for box in self.known})

    def __sub__(self, other):
        check_trees(self, other)
        return with_values(self.tree, {box: self.known[box] and not other.known[box] for box in self.known})

    def __invert__(self):
        return Meaning(self.tree, not self.default, self.turns)

    def value(self, box):
        """Returns the value of a box or the top."""
        check_place(self.tree, box)
        return self.known[box]

    def states(self):
        """Returns the dict from the top and the boxes, in order, to their values."""
        return dict(self.known)

    def price(self):
        """Returns the sum of the prices of the turned boxes."""
        return sum([self.tree.price(box) for box in self.turns])


def parting(one, other):
    """Returns the first of the top and the boxes whose values are unlike, None if the meanings are equal."""
    check_trees(one, other)
    for box in one.known:
        if one.known[box] != other.known[box]:
            return box
    return None


def middle(meanings):
    """Returns the meaning that most of the meanings tell, and the places at which just half of them do."""
    for meaning in meanings:
        check_trees(meanings[0], meaning)
    tree = meanings[0].tree
    votes = {TOP: len([one for one in meanings if one.default])}
    for box in tree.below(TOP):
        votes[box] = len([one for one in meanings if box in one.turns])
    most = [box for box in votes if 2 * votes[box] > len(meanings)]
    halved = [box for box in votes if 2 * votes[box] == len(meanings)]
    turns = [box for box in most if box != TOP]
    return Meaning(tree, TOP in most, turns), halved
