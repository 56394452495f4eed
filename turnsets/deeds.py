"""Rows of deeds: what a row of clicks does to each meaning of a tree without locked boxes."""

from turnsets.errors import BadDeed, Clash, LockedTree
from turnsets.meanings import check_trees, with_values
from turnsets.trees import TOP, is_place

ON = "on"
OFF = "off"
FLIP = "flip"
KEEP = "keep"
WORDS = ("on", "off", "flip")
FIRM = ("on", "off")
FLIPPED = {"on": "off", "off": "on", "flip": "keep", "keep": "flip"}


def check_unlocked(tree):
    """Raises LockedTree if a box of the tree is locked."""
    for box in tree.below(TOP):
        if tree.price(box) is None:
            raise LockedTree()


def is_deed(tree, thing):
    """Tells of any object whether it is a pair of a word and a box of the tree or the top."""
    if not isinstance(thing, (list, tuple)) or len(thing) != 2:
        return False
    word, place = thing
    return word in WORDS and is_place(tree, place)


def check_deeds(tree, deeds):
    """Raises BadDeed for the first thing in deeds that is no deed."""
    if not isinstance(deeds, (list, tuple)):
        raise BadDeed(0)
    for index, deed in enumerate(deeds):
        if not is_deed(tree, deed):
            raise BadDeed(index)


def effects_of(tree, deeds):
    """Returns the dict from the top and the boxes, in order, to what the deeds do to each of them."""
    effects = {TOP: KEEP}
    for box in tree.below(TOP):
        effects[box] = KEEP
    for word, place in deeds:
        for box in [place] + tree.below(place):
            effects[box] = FLIPPED[effects[box]] if word == FLIP else word
    return effects


def effect_around(tree, effects, place):
    """Returns the effect on the folder of a place; the top is as if it lay in something that is kept."""
    return KEEP if place == TOP else effects[tree.folder(place)]


def entries_of(tree, effects):
    """Returns the part of effects that is not as around the place."""
    return {place: effects[place] for place in effects if effects[place] != effect_around(tree, effects, place)}


def row_of(tree, effects):
    """Returns the row of as few deeds as possible that has these effects: one deed for each entry."""
    entries = entries_of(tree, effects)
    # Around what is kept or flipped is the other one of both, so one flip makes it so.
    return Row(tree, [(word if word in FIRM else FLIP, place) for place, word in entries.items()])


def value_behind(effect, value):
    """Returns what a value becomes by an effect."""
    if effect in FIRM:
        return effect == ON
    return value != (effect == FLIP)


class Row:
    """Deeds on a tree without locked boxes, done one behind the other."""

    def __init__(self, tree, deeds):
        check_unlocked(tree)
        check_deeds(tree, deeds)
        self.tree = tree
        self.pairs = tuple([tuple(deed) for deed in deeds])
        self.effects = effects_of(tree, self.pairs)

    def __eq__(self, other):
        return isinstance(other, Row) and self.tree == other.tree and self.effects == other.effects

    def __len__(self):
        return len(self.pairs)

    def __add__(self, other):
        check_trees(self, other)
        return Row(self.tree, self.pairs + other.pairs)

    def __call__(self, meaning):
        check_trees(self, meaning)
        values = {place: value_behind(self.effects[place], value) for place, value in meaning.states().items()}
        return with_values(self.tree, values)

    def deeds(self):
        """Returns the deeds as tuples."""
        return list(self.pairs)

    def maps(self):
        """Returns the dict from the top and the boxes, in order, to what the row does to each of them."""
        return dict(self.effects)

    def entries(self):
        """Returns the part of the maps that is not as in the folder, for the top that is not kept."""
        return entries_of(self.tree, self.effects)

    def least(self):
        """Returns the row of as few deeds as possible that is equal to this one."""
        return row_of(self.tree, self.effects)

    def undo(self):
        """Returns the least row that undoes this one for all meanings, None if there is none."""
        if any([effect in FIRM for effect in self.effects.values()]):
            return None
        # What only keeps and flips is undone when it is done once more.
        return self.least()


def idle(row):
    """Returns the indexes of the deeds each of which could be left out by itself."""
    deeds = row.deeds()
    return [at for at in range(len(deeds)) if Row(row.tree, deeds[:at] + deeds[at + 1:]) == row]


def clash(one, other):
    """Returns the first of the top and the boxes for which the order of the rows counts, None if there is none."""
    ahead, behind = (one + other).maps(), (other + one).maps()
    for place in ahead:
        if ahead[place] != behind[place]:
            return place
    return None


def unlike(one, other):
    """Returns the number of entries that stand where an effect meets the one around it: none or one."""
    return 0 if one == other else 1


def entry_counts(tree, loose, firm):
    """Returns, for loose and for firm effects on each place, the least number of entries below it."""
    if_loose = {place: 0 for place in loose}
    if_firm = {place: 0 for place in firm}
    # Each box stands behind its folder, so backwards all below a box is counted ahead of it.
    for box in tree.below(TOP)[::-1]:
        folder = tree.folder(box)
        if_loose[folder] += min(if_loose[box] + unlike(loose[box], loose[folder]), if_firm[box] + 1)
        if_firm[folder] += if_firm[box] + unlike(firm[box], firm[folder])
    return if_loose, if_firm


def fewest_effects(tree, loose, firm):
    """Returns loose or firm effects with as few entries as possible, loose ones ahead of firm ones."""
    if_loose, if_firm = entry_counts(tree, loose, firm)
    effects = {}
    for place in loose:
        around = effect_around(tree, effects, place)
        # Below what is firm nothing is loose again.
        if around in FIRM or if_firm[place] + 1 < if_loose[place] + unlike(loose[place], around):
            effects[place] = firm[place]
        else:
            effects[place] = loose[place]
    return effects


def fewest_deeds(one, other):
    """Returns the row of as few deeds as possible that leads from one meaning to the other."""
    check_trees(one, other)
    check_unlocked(one.tree)
    before, behind = one.states(), other.states()
    loose = {place: KEEP if before[place] == behind[place] else FLIP for place in before}
    firm = {place: ON if behind[place] else OFF for place in before}
    return row_of(one.tree, fewest_effects(one.tree, loose, firm))


def told_values(meaning, row):
    """Returns the dict from the places to which the row tells something to their values behind it."""
    behind = row(meaning).states()
    # A flip changes each value, so it tells one, too.
    return {place: behind[place] for place, effect in row.maps().items() if effect != KEEP}


def join(meaning, one, other):
    """Returns the meaning in which all is so that one row or the other tells, all else as in the meaning."""
    check_trees(meaning, one)
    check_trees(meaning, other)
    first, second = told_values(meaning, one), told_values(meaning, other)
    for place in first:
        if place in second and first[place] != second[place]:
            raise Clash(place)
    values = meaning.states()
    values.update(first)
    values.update(second)
    return with_values(meaning.tree, values)
