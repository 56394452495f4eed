"""Texts: the lines of a meaning, and written lists of what is to be on and off."""

from turnsets.deeds import check_unlocked
from turnsets.errors import BadLine
from turnsets.meanings import Meaning, with_values
from turnsets.trees import TOP

ALL = "all"
NONE = "none"
SIGNS = {"+ ": True, "- ": False}


def way_text(tree, box):
    """Returns the names on the way to the box as one text."""
    return "/".join(tree.way(box))


def turn_line(tree, box):
    """Returns the line of a turned box."""
    return "but " + way_text(tree, box)


def write(meaning):
    """Returns the lines of the meaning."""
    first = ALL if meaning.default else NONE
    return [first] + [turn_line(meaning.tree, box) for box in meaning.turns]


def read(tree, lines):
    """Returns the meaning that has these lines."""
    if not isinstance(lines, (list, tuple)) or len(lines) == 0 or lines[0] not in (ALL, NONE):
        raise BadLine(0)
    boxes = [box for box in tree.below(TOP) if tree.price(box) is not None]
    texts = [turn_line(tree, box) for box in boxes]
    turns, start = [], 0
    for index, line in enumerate(lines[1:], start=1):
        if line not in texts[start:]:
            raise BadLine(index)
        start = texts.index(line) + 1
        turns.append(boxes[start - 1])
    return Meaning(tree, lines[0] == ALL, turns)


def reaches(tree):
    """Returns the dict from what may stand behind a sign to the places that get its value."""
    found = {"**": [TOP] + tree.below(TOP), "*": tree.below(TOP)}
    for box in tree.below(TOP):
        # What is done to each box that lies in it at once is done to all below it; newcomers stay as the box.
        found[way_text(tree, box)] = [box] + tree.below(box)
        found[way_text(tree, box) + "/*"] = tree.below(box)
    return found


def listed(tree, lines):
    """Returns the meaning of a written list, whose lines are done one behind the other."""
    check_unlocked(tree)
    if not isinstance(lines, (list, tuple)):
        raise BadLine(0)
    found = reaches(tree)
    values = {place: False for place in found["**"]}
    for index, line in enumerate(lines):
        if not isinstance(line, str) or line[:2] not in SIGNS or line[2:] not in found:
            raise BadLine(index)
        for place in found[line[2:]]:
            values[place] = SIGNS[line[:2]]
    return with_values(tree, values)
