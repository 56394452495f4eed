"""Moves: what becomes of a meaning when a box is moved, by one of three rules."""

from turnsets.errors import BadRule
from turnsets.meanings import Meaning
from turnsets.trees import FOLDER, TOP

TOLD = "told"
MEANT = "meant"
RULES = ("told", "turned", "meant")


def check_rule(thing):
    """Raises BadRule for any object that is no rule."""
    if thing not in RULES:
        raise BadRule(thing)


def turns_behind(meaning, box, folder, rule):
    """Tells whether the box needs a turn by the rule when it lies in the folder."""
    turned = box in meaning.turns
    if rule == MEANT or (rule == TOLD and turned):
        return meaning.value(box) != meaning.value(folder)
    return turned


def moved(meaning, box, folder, rule):
    """Returns the meaning of the tree in which the box lies in the folder or the top."""
    tree = meaning.tree.moved(box, folder)
    check_rule(rule)
    turns = [turn for turn in meaning.turns if turn != box]
    if turns_behind(meaning, box, folder, rule):
        turns.append(box)
    # No other turn is new, so if one is locked it is that of the box.
    return Meaning(tree, meaning.default, turns)


def back(meaning, box, folder, rule):
    """Tells whether all turns are as before when the box has been moved to the folder and back."""
    there = moved(meaning, box, folder, rule)
    home = moved(there, box, meaning.tree.folder(box), rule)
    return home.default == meaning.default and sorted(home.turns) == sorted(meaning.turns)


def goals(tree, box):
    """Returns the top and the folders, in order, to which the box may be moved."""
    below = tree.below(box)
    folders = [name for name in tree.below(TOP) if tree.kind(name) == FOLDER]
    return [TOP] + [name for name in folders if name != box and name not in below]


def unlike_moves(meaning, rule, other):
    """Returns the pairs (box, folder) of the moves behind which the rules give unlike values."""
    check_rule(rule)
    check_rule(other)
    pairs = []
    # Where the rules are unlike one of them needs a turn, so for a locked box that one raises Locked.
    for box in [name for name in meaning.tree.below(TOP) if meaning.tree.price(name) is not None]:
        for folder in goals(meaning.tree, box):
            if turns_behind(meaning, box, folder, rule) != turns_behind(meaning, box, folder, other):
                pairs.append((box, folder))
    return pairs
