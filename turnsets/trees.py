"""Trees of boxes: folders, items, and folders that are not loaded, below the top."""

from turnsets.errors import BadMove, BadRow, NoBox, NotShut

TOP = "top"
FOLDER = "folder"
ITEM = "item"
SHUT = "shut"
KINDS = ("folder", "item", "shut")
LONGEST_NAME = 8


def is_name(thing):
    """Tells of any object whether a box can have it as its name."""
    if not isinstance(thing, str) or thing == TOP or len(thing) > LONGEST_NAME:
        return False
    return thing.isascii() and thing.isalpha() and thing.islower()


def is_number(thing, least):
    """Tells of any object whether it is an integer from the least one on."""
    return isinstance(thing, int) and not isinstance(thing, bool) and thing >= least


def is_price(thing):
    """Tells of any object whether it is a price, or None, which stands for locked."""
    return thing is None or is_number(thing, 1)


def is_row(thing, taken, homes):
    """Tells of any object whether it is a row whose name is not taken and whose folder is one of homes."""
    if not isinstance(thing, (list, tuple)) or len(thing) != 4:
        return False
    name, folder, kind, price = thing
    if not is_name(name) or name in taken:
        return False
    # Any object may stand for the folder, and not every one can be looked up in a dict.
    if not isinstance(folder, str) or folder not in homes:
        return False
    return kind in KINDS and is_price(price)


def check_rows(rows, names, folders):
    """Raises BadRow for the first row that cannot stand behind these names and within these folders."""
    if not isinstance(rows, (list, tuple)):
        raise BadRow(0)
    taken = {name: True for name in names}
    homes = {folder: True for folder in folders}
    for index, row in enumerate(rows):
        if not is_row(row, taken, homes):
            raise BadRow(index)
        name, folder, kind, price = row
        taken[name] = True
        if kind == FOLDER:
            homes[name] = True


def check_box(tree, thing):
    """Raises NoBox for any object that is no box of the tree; the top is none."""
    if thing not in tree:
        raise NoBox(thing)


def is_place(tree, thing):
    """Tells of any object whether it is a box of the tree or the top."""
    return thing == TOP or thing in tree


def check_place(tree, thing):
    """Raises NoBox for any object that is neither a box of the tree nor the top."""
    if not is_place(tree, thing):
        raise NoBox(thing)


class Tree:
    """A tree of boxes; it never changes, what changes a tree returns another one."""

    def __init__(self, rows):
        check_rows(rows, (), (TOP,))
        self.quads = tuple([tuple(row) for row in rows])
        self.folders = {name: folder for name, folder, kind, price in self.quads}
        self.kinds = {name: kind for name, folder, kind, price in self.quads}
        self.prices = {name: price for name, folder, kind, price in self.quads}

    def __eq__(self, other):
        return isinstance(other, Tree) and self.quads == other.quads

    def __len__(self):
        return len(self.quads)

    def __contains__(self, x):
        return isinstance(x, str) and x in self.kinds

    def rows(self):
        """Returns the rows as tuples, in order."""
        return list(self.quads)

    def folder(self, box):
        """Returns the folder in which the box lies, or the top."""
        check_box(self, box)
        return self.folders[box]

    def kind(self, box):
        """Returns the kind of the box."""
        check_box(self, box)
        return self.kinds[box]

    def price(self, box):
        """Returns the price of a turn at the box, None if it is locked."""
        check_box(self, box)
        return self.prices[box]

    def inside(self, box):
        """Returns the boxes that lie in a box or the top at once, in order."""
        check_place(self, box)
        return [name for name in self.folders if self.folders[name] == box]

    def below(self, box):
        """Returns the boxes within a box or the top, at any depth, in order."""
        check_place(self, box)
        within = {box: True}
        # Each box stands behind its folder, so one pass finds all depths.
        for name in self.folders:
            if self.folders[name] in within:
                within[name] = True
        return list(within)[1:]

    def way(self, box):
        """Returns the boxes from the one that lies in the top down to the box itself."""
        check_place(self, box)
        climb = []
        while box != TOP:
            climb.append(box)
            box = self.folders[box]
        return climb[::-1]

    def steps(self, one, other):
        """Returns the boxes whose steps the way between the two has, in order."""
        ways = self.way(one) + self.way(other)
        return [name for name in self.folders if ways.count(name) == 1]

    def more(self, row):
        """Returns the tree with one more row at the end."""
        return Tree(self.rows() + [row])

    def less(self, box):
        """Returns the tree without the box and all below it."""
        check_box(self, box)
        gone = [box] + self.below(box)
        return Tree([row for row in self.quads if row[0] not in gone])

    def moved(self, box, folder):
        """Returns the tree in which the box, with all below it, lies in the folder or the top."""
        check_box(self, box)
        check_place(self, folder)
        below = self.below(box)
        if folder != TOP and (self.kinds[folder] != FOLDER or folder == box or folder in below):
            raise BadMove(box, folder)
        ahead = [row for row in self.quads if row[0] != box and row[0] not in below]
        behind = [row for row in self.quads if row[0] in below]
        return Tree(ahead + [(box, folder, self.kinds[box], self.prices[box])] + behind)

    def opened(self, box, rows):
        """Returns the tree in which the shut folder is loaded and holds these rows."""
        check_box(self, box)
        if self.kinds[box] != SHUT:
            raise NotShut(box)
        check_rows(rows, self.kinds, (box,))
        loaded = (box, self.folders[box], FOLDER, self.prices[box])
        ahead = [loaded if row[0] == box else row for row in self.quads]
        return Tree(ahead + list(rows))
