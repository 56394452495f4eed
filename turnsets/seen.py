"""What seen boxes tell of all others, and why."""

from turnsets.cheap import VALUES, cheapest, ends_of
from turnsets.errors import BadNumber, Barred, TooDear
from turnsets.trees import TOP, check_place, is_number


def cheapest_within(tree, seen, most, default):
    """Returns what is cheapest for what is seen; raises an error if no meaning within the price keeps it."""
    ends_of(tree, seen, default)
    if not is_number(most, 0):
        raise BadNumber(most)
    found = cheapest(tree, seen, default)
    if found.cost > most:
        raise TooDear(found.cost)
    return found


def reason(tree, seen, most, default, place, value):
    """Returns what shows that no meaning within the price keeps what is seen and has the other value at the
    place: the two that bar it, or ways that cost more; None if some meaning does."""
    if place in ends_of(tree, seen, default):
        return (place, place)
    wish = dict(seen)
    wish[place] = not value
    try:
        found = cheapest(tree, wish, default)
    except Barred as error:
        return (error.one, error.other)
    return found.ways if found.cost > most else None


def sure(tree, seen, most, default=None):
    """Returns the dict from the top and the boxes to the value that is sure for each, None if none is."""
    told = cheapest_within(tree, seen, most, default).wide.states()
    # The wide meaning is within the price, so no value but its own can be sure.
    return {place: None if reason(tree, seen, most, default, place, told[place]) is None else told[place]
            for place in told}


def why_sure(tree, seen, most, box, default=None):
    """Returns ways, or the two of Barred, which show that the value of the box is sure; None if it is not."""
    found = cheapest_within(tree, seen, most, default)
    check_place(tree, box)
    return reason(tree, seen, most, default, box, found.wide.value(box))


def grown(tree, ends, bits, part, box):
    """Returns the parts that have one more box, without a turn and with one; a part is a price and a code."""
    price, code = part
    around = (code & bits[tree.folder(box)]) != 0
    steps = [(price, around)]
    if tree.price(box) is not None:
        steps.append((price + tree.price(box), not around))
    return [(total, code | bits[box] if value else code) for total, value in steps if ends.get(box, value) == value]


def codes_within(tree, ends, most):
    """Returns a code for each meaning within the price that has these values: its bits tell its values."""
    places = [TOP] + tree.below(TOP)
    bits = {place: 1 << at for at, place in enumerate(places)}
    parts = [(0, bits[TOP] if value else 0) for value in VALUES if ends.get(TOP, value) == value]
    # Each box stands behind its folder, so the folder's bit is known when the box asks for it.
    for box in places[1:]:
        parts = [part for shorter in parts for part in grown(tree, ends, bits, shorter, box) if part[0] <= most]
    return [code for price, code in parts]


def longer_choices(choices, many):
    """Returns the choices that have one more of so many places, in order."""
    return [choice + (at,) for choice in choices for at in range(choice[-1] + 1 if choice else 0, many)]


def tells_apart(choice, codes):
    """Tells whether no two of the codes are alike in all chosen bits."""
    # So few places have fewer values than there are codes.
    if 1 << len(choice) < len(codes):
        return False
    mask = sum([1 << at for at in choice])
    return len({code & mask for code in codes}) == len(codes)


def fewest_looks(tree, seen, most, default=None):
    """Returns all choices of as few places as possible whose values tell those of all others."""
    cheapest_within(tree, seen, most, default)
    codes = codes_within(tree, ends_of(tree, seen, default), most)
    places = [TOP] + tree.below(TOP)
    choices, enough = [()], []
    while not enough:
        enough = [choice for choice in choices if tells_apart(choice, codes)]
        choices = longer_choices(choices, len(places))
    return [tuple([places[at] for at in choice]) for choice in enough]
