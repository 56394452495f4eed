"""What boxes show of the items within them, and clicks on what is shown."""

from turnsets.deeds import OFF, ON, value_behind
from turnsets.errors import BadRange, BadTable, NoBox, NotSure
from turnsets.meanings import check_trees, with_values
from turnsets.trees import ITEM, SHUT, TOP, check_place, is_number

PART = "part"
NONE = "none"
SHOWN = ("on", "off", "part", "none")
CLICK_WORDS = ("on", "off", "flip", "keep")
NO_ITEMS = (0, 0)
ONE_ITEM = (1, 1)
ANY_ITEMS = (0, None)


def is_range(thing):
    """Tells of any object whether it is a pair of a least and a most number, or of None for no end."""
    if not isinstance(thing, (list, tuple)) or len(thing) != 2:
        return False
    least, most = thing
    return is_number(least, 0) and (most is None or is_number(most, least))


def check_ranges(tree, ranges):
    """Raises BadRange for the first key that is no shut folder or has no range."""
    for box, pair in ranges.items():
        if box not in tree or tree.kind(box) != SHUT or not is_range(pair):
            raise BadRange(box)


def ranges_of(tree, ranges):
    """Returns the dict from the top and the boxes, in order, to the numbers of items that each is by itself."""
    found = {TOP: NO_ITEMS}
    for box in tree.below(TOP):
        if tree.kind(box) == SHUT:
            found[box] = tuple(ranges.get(box, ANY_ITEMS))
        else:
            found[box] = ONE_ITEM if tree.kind(box) == ITEM else NO_ITEMS
    return found


def number_within(counts, meaning, box, value):
    """Returns the least and the most number of the items within the box that have this value."""
    check_trees(counts, meaning)
    check_place(counts.tree, box)
    pairs = [counts.pairs[place] for place in [box] + counts.tree.below(box) if meaning.value(place) == value]
    mosts = [most for least, most in pairs]
    return (sum([least for least, most in pairs]), None if None in mosts else sum(mosts))


def shown(has_on, has_off):
    """Returns what a box shows that has items that are on, and such that are off, or none of these."""
    if has_on and has_off:
        return PART
    if has_on:
        return ON
    return OFF if has_off else NONE


def may_have(number):
    """Returns the list of whether there may be none, and whether there may be some, of so many items."""
    least, most = number
    return ([False] if least == 0 else []) + ([True] if most != 0 else [])


class Counts:
    """How many items a tree holds: the shut folders hold numbers within ranges."""

    def __init__(self, tree, ranges=None):
        told = {} if ranges is None else ranges
        check_ranges(tree, told)
        self.tree = tree
        self.pairs = ranges_of(tree, told)

    def on(self, meaning, box):
        """Returns the least and the most number of items within the box that are on."""
        return number_within(self, meaning, box, True)

    def off(self, meaning, box):
        """Returns the least and the most number of items within the box that are off."""
        return number_within(self, meaning, box, False)

    def shows(self, meaning, box):
        """Returns the ascending list of what the box may show."""
        some_on, some_off = may_have(self.on(meaning, box)), may_have(self.off(meaning, box))
        return sorted([shown(has_on, has_off) for has_on in some_on for has_off in some_off])

    def asks(self, meaning, box):
        """Returns the shut folders within the box on whose numbers it may hang what it shows."""
        least = {True: self.on(meaning, box)[0], False: self.off(meaning, box)[0]}
        places = [place for place in [box] + self.tree.below(box) if least[meaning.value(place)] == 0]
        # Where there may be no items of a value, each that may have some of it tells if the others have none.
        return [place for place in places if self.pairs[place][1] != 0]


def check_click(counts, meaning, box, table, seen):
    """Raises what is wrong with the arguments of a click."""
    check_trees(counts, meaning)
    check_place(counts.tree, box)
    for word in SHOWN:
        if word not in table or table[word] not in CLICK_WORDS:
            raise BadTable(word)
    for item in [] if seen is None else seen:
        if item not in counts.tree or counts.tree.kind(item) != ITEM:
            raise NoBox(item)


def shown_by_all(counts, meaning, box):
    """Returns what the box shows; raises NotSure if this hangs on what is not known."""
    words = counts.shows(meaning, box)
    if len(words) > 1:
        raise NotSure(box)
    return words[0]


def shown_by(meaning, items):
    """Returns what a box shows that has these items alone."""
    values = [meaning.value(item) for item in items]
    return shown(True in values, False in values)


def behind_word(meaning, word, places):
    """Returns the meaning in which the word is done to the value of each of the places."""
    values = meaning.states()
    for place in places:
        values[place] = value_behind(word, values[place])
    return with_values(meaning.tree, values)


def click(counts, meaning, box, table, seen=None):
    """Returns the meaning behind a click on the box, which is done to all within it, or to what is seen alone."""
    check_click(counts, meaning, box, table, seen)
    places = [box] + counts.tree.below(box)
    if seen is None:
        return behind_word(meaning, table[shown_by_all(counts, meaning, box)], places)
    items = [place for place in places if place in seen]
    return behind_word(meaning, table[shown_by(meaning, items)], items)


def unseen(counts, meaning, box, table, seen):
    """Returns the places that are not in seen and whose value a click without seen changes."""
    check_click(counts, meaning, box, table, seen)
    before, behind = meaning.states(), click(counts, meaning, box, table).states()
    return [place for place in before if before[place] != behind[place] and place not in seen]
