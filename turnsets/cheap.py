"""The cheapest turns for a wish, and the ways which show that none are cheaper."""

from turnsets.errors import BadDefault, BadWish, Barred
from turnsets.meanings import with_values
from turnsets.trees import TOP, is_number, is_place

VALUES = (False, True)


def check_wish(tree, wish):
    """Raises BadWish for the first key that is no box and not the top, or whose value is no truth."""
    for place, value in wish.items():
        if not is_place(tree, place) or not isinstance(value, bool):
            raise BadWish(place)


def ends_of(tree, wish, default):
    """Returns the dict of the values that are told; for the top a told default counts ahead of the wish."""
    check_wish(tree, wish)
    if default is not None and not isinstance(default, bool):
        raise BadDefault()
    ends = dict(wish)
    if default is not None:
        ends[TOP] = default
    return ends


def above_locked(tree, place):
    """Returns the place that is reached upwards as long as steps are locked."""
    while place != TOP and tree.price(place) is None:
        place = tree.folder(place)
    return place


def check_barred(tree, ends):
    """Raises Barred with an on and an off end between which all steps are locked."""
    firsts = {}
    for place, value in ends.items():
        # All steps between two places are locked just if locked steps lead both to the same one.
        first = firsts.setdefault(above_locked(tree, place), place)
        if ends[first] != value:
            one, other = (place, first) if value else (first, place)
            raise Barred(one, other)


def open_ends(tree, wish, default):
    """Returns the dict of the values that are told; raises Barred if no meaning has them all."""
    ends = ends_of(tree, wish, default)
    if TOP in wish and wish[TOP] != ends[TOP]:
        raise Barred(TOP, TOP)
    check_barred(tree, ends)
    return ends


def endless(tree):
    """Returns an amount that is more than the price of any turns."""
    prices = [tree.price(box) for box in tree.below(TOP)]
    return 1 + sum([price for price in prices if price is not None])


def step_prices(tree):
    """Returns the dict from the boxes to the prices of their steps, an endless one for a locked step."""
    locked = endless(tree)
    prices = {box: tree.price(box) for box in tree.below(TOP)}
    return {box: locked if prices[box] is None else prices[box] for box in prices}


def choices(tree, ends):
    """Returns two dicts from pairs (place, value): if the place has this value, the least price of turns below
    it with which the ends have their values, and the number of the choices of such turns."""
    barred = endless(tree)
    steps = step_prices(tree)
    prices = {(place, value): 0 if ends.get(place, value) == value else barred
              for place in [TOP] + tree.below(TOP) for value in VALUES}
    numbers = {pair: 1 for pair in prices}
    # Each box stands behind its folder, so backwards all below a box is added up ahead of it.
    for box in tree.below(TOP)[::-1]:
        folder = tree.folder(box)
        for value in VALUES:
            plain, turned = prices[box, value], prices[box, not value] + steps[box]
            prices[folder, value] += min(plain, turned)
            cheap = [(plain, value), (turned, not value)]
            numbers[folder, value] *= sum([numbers[box, own] for price, own in cheap if price == min(plain, turned)])
    return prices, numbers


def favoured(tree, prices, favour):
    """Returns the cheapest meaning in which each place has the favoured value if it has it in any of them."""
    steps = step_prices(tree)
    other = not favour
    values = {TOP: favour if prices[TOP, favour] <= prices[TOP, other] else other}
    for box in tree.below(TOP):
        folder = values[tree.folder(box)]
        with_favour = prices[box, favour] + (0 if folder == favour else steps[box])
        with_other = prices[box, other] + (0 if folder == other else steps[box])
        values[box] = favour if with_favour <= with_other else other
    return with_values(tree, values)


def shorter(parts, amount):
    """Returns the parts without this amount of the first one."""
    first, place = parts[0]
    rest = [(first - amount, place)] if first > amount else []
    return rest + parts[1:]


def paired(ons, offs):
    """Returns the ways that put parts from on and from off ends together, and what is left of both."""
    ways = []
    while ons and offs:
        amount = min(ons[0][0], offs[0][0])
        ways.append((amount, ons[0][1], offs[0][1]))
        ons, offs = shorter(ons, amount), shorter(offs, amount)
    return ways, ons, offs


def let_through(parts, price):
    """Returns as much of the parts as a step of this price bears."""
    through = []
    for amount, place in parts:
        borne = min(amount, price)
        price = price - borne
        if borne > 0:
            through.append((borne, place))
    return through


def ways_between(tree, ends):
    """Returns ways between on and off ends, as many as the steps bear."""
    steps = step_prices(tree)
    # Parts (amount, end) that have come up to the place, from ends of this value.
    waiting = {(place, value): [] for place in [TOP] + tree.below(TOP) for value in VALUES}
    ways = []
    for place in tree.below(TOP)[::-1] + [TOP]:
        if place in ends:
            # An end gives as much as is asked, so none of its own value need come from below it.
            waiting[place, ends[place]] = [(endless(tree), place)]
        found, ons, offs = paired(waiting[place, True], waiting[place, False])
        ways.extend(found)
        if place != TOP:
            waiting[tree.folder(place), True].extend(let_through(ons, steps[place]))
            waiting[tree.folder(place), False].extend(let_through(offs, steps[place]))
    return ways


class Cheapest:
    """The cheapest price for a wish, the widest and the narrowest meaning at it, and ways that show it."""

    def __init__(self, cost, wide, narrow, ways):
        self.cost = cost
        self.wide = wide
        self.narrow = narrow
        self.ways = ways


def cheapest(tree, wish, default=None):
    """Returns what the meanings cost that keep the wish at the cheapest price."""
    ends = open_ends(tree, wish, default)
    prices, numbers = choices(tree, ends)
    cost = min(prices[TOP, False], prices[TOP, True])
    return Cheapest(cost, favoured(tree, prices, True), favoured(tree, prices, False), ways_between(tree, ends))


def is_way(ends, thing):
    """Tells of any object whether it is a triple of an amount, an on end and an off end."""
    if not isinstance(thing, (list, tuple)) or len(thing) != 3:
        return False
    amount, one, other = thing
    # Any object may stand for an end, and not every one can be looked up in a dict.
    if not is_number(amount, 1) or not isinstance(one, str) or not isinstance(other, str):
        return False
    return ends.get(one) is True and ends.get(other) is False


def is_ways(tree, wish, default, thing):
    """Tells of any object whether it is a list of ways which together no step bears beyond its price."""
    ends = ends_of(tree, wish, default)
    if not isinstance(thing, (list, tuple)) or not all([is_way(ends, way) for way in thing]):
        return False
    borne = {box: 0 for box in tree.below(TOP)}
    for amount, one, other in thing:
        for box in tree.steps(one, other):
            borne[box] += amount
    return all([tree.price(box) is None or borne[box] <= tree.price(box) for box in borne])


def how_many(tree, wish, default=None):
    """Returns the number of the meanings that keep the wish at the cheapest price."""
    prices, numbers = choices(tree, open_ends(tree, wish, default))
    cost = min(prices[TOP, False], prices[TOP, True])
    return sum([numbers[TOP, value] for value in VALUES if prices[TOP, value] == cost])
