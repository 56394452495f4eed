"""Live trees: a meaning that changes, with its tree, and whose changes can be taken back."""

from turnsets.deeds import Row
from turnsets.meanings import Meaning
from turnsets.moving import moved
from turnsets.trees import ITEM, TOP, check_box, check_place


def with_turn_over(meaning, box):
    """Returns the meaning in which the box has a turn just if it had none."""
    check_box(meaning.tree, box)
    turns = [turn for turn in meaning.turns if turn != box]
    if box not in meaning.turns:
        turns.append(box)
    return Meaning(meaning.tree, meaning.default, turns)


class Live:
    """Keeps the present meaning, those that can be taken back to, and those that can come again."""

    def __init__(self, meaning):
        self.present = meaning
        self.past = []
        self.ahead = []

    def change(self, meaning):
        """Makes this the present meaning; what was taken back cannot be done again behind it."""
        self.past.append(self.present)
        self.present = meaning
        self.ahead = []

    def meaning(self):
        """Returns the present meaning."""
        return self.present

    def add(self, row):
        """Puts a newcomer in, which is as its folder is."""
        tree = self.present.tree.more(row)
        self.change(Meaning(tree, self.present.default, self.present.turns))

    def drop(self, box):
        """Takes the box with all below it and their turns away."""
        tree = self.present.tree.less(box)
        self.change(Meaning(tree, self.present.default, [turn for turn in self.present.turns if turn in tree]))

    def move(self, box, folder, rule):
        """Moves the box to the folder by the rule."""
        self.change(moved(self.present, box, folder, rule))

    def do(self, word, box):
        """Does a deed."""
        row = Row(self.present.tree, [(word, box)])
        self.change(row(self.present))

    def turn(self, box):
        """Gives the box a turn, or takes the one that it has."""
        self.change(with_turn_over(self.present, box))

    def on(self, box):
        """Returns the number of items within the box or the top that are on."""
        tree = self.present.tree
        check_place(tree, box)
        names = [place for place in [box] + tree.below(box) if place != TOP and self.present.value(place)]
        return len([name for name in names if tree.kind(name) == ITEM])

    def undo(self):
        """Takes the last change back that is not taken back yet; tells whether there was one."""
        if len(self.past) == 0:
            return False
        self.ahead.append(self.present)
        self.present = self.past.pop()
        return True

    def again(self):
        """Does the change again that was taken back last; tells whether there was one."""
        if len(self.ahead) == 0:
            return False
        self.past.append(self.present)
        self.present = self.ahead.pop()
        return True

    def trial(self, work):
        """Returns what the work returns that is done to this live tree, which is then as it was before."""
        present, past, ahead = self.present, list(self.past), list(self.ahead)
        try:
            return work(self)
        finally:
            self.present, self.past, self.ahead = present, past, ahead
