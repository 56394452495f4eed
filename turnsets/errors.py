"""The errors of the package; their attributes hold the very objects that were passed."""


class BoxError(ValueError):
    """The base of all errors of this package."""


class BadRow(BoxError):
    """What stands at this index cannot stand there as a row of a tree."""

    def __init__(self, index):
        self.index = index


class NoBox(BoxError):
    """This object is no box of the tree."""

    def __init__(self, box):
        self.box = box


class BadMove(BoxError):
    """The box cannot lie in this other one."""

    def __init__(self, box, into):
        self.box = box
        self.into = into


class NotShut(BoxError):
    """The box is no shut folder."""

    def __init__(self, box):
        self.box = box


class BadDefault(BoxError):
    """The default is no truth."""


class Locked(BoxError):
    """The box is locked and can have no turn."""

    def __init__(self, box):
        self.box = box


class UnlikeTrees(BoxError):
    """What was passed together is of unequal trees."""


class LockedTree(BoxError):
    """A box of the tree is locked."""


class BadDeed(BoxError):
    """What stands at this index is no deed."""

    def __init__(self, index):
        self.index = index


class Clash(BoxError):
    """One row tells that the box is on, the other one that it is off."""

    def __init__(self, box):
        self.box = box


class BadRule(BoxError):
    """This object is no rule of what follows a move."""

    def __init__(self, rule):
        self.rule = rule


class BadWish(BoxError):
    """This key of a wish is no box, or what is wished for it is no truth."""

    def __init__(self, box):
        self.box = box


class Barred(BoxError):
    """These two are to be unlike, and all steps between them are locked."""

    def __init__(self, one, other):
        self.one = one
        self.other = other


class BadNumber(BoxError):
    """This object is no integer from 0 on."""

    def __init__(self, number):
        self.number = number


class TooDear(BoxError):
    """The cheapest price is this cost, which is above what was let."""

    def __init__(self, cost):
        self.cost = cost


class BadRange(BoxError):
    """This key of ranges is no shut folder, or has no range."""

    def __init__(self, box):
        self.box = box


class BadTable(BoxError):
    """The table of clicks tells nothing, or something else, for this word."""

    def __init__(self, word):
        self.word = word


class NotSure(BoxError):
    """What the box shows is not sure."""

    def __init__(self, box):
        self.box = box


class BadLine(BoxError):
    """What stands at this index cannot stand there as a line."""

    def __init__(self, index):
        self.index = index
