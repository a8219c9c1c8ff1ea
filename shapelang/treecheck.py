"""Whether a value is a right tree, whoever made it."""

from shapelang.formed import kind_of
from shapelang.names import is_integer
from shapelang.ways import Outset, Standing


def is_way(value):
    """Whether the value is a tuple of integers."""
    if not isinstance(value, tuple):
        return False
    for item in value:
        if not is_integer(item):
            return False
    return True


def are_branches(value, makers):
    """Whether the value is a tuple of pairs that begin with the Names of these makers."""
    if not isinstance(value, tuple) or len(value) != len(makers):
        return False
    for branch, maker in zip(value, makers):
        if not isinstance(branch, tuple) or len(branch) != 2 or branch[0] != maker[0]:
            return False
    return True


def is_look(value):
    """Whether the value begins as a look."""
    return isinstance(value, tuple) and len(value) == 3 and value[0] == "look"


def is_end(value):
    """Whether the value is an end."""
    if value == ("none",):
        return True
    return kind_of(value) == "row" and len(value) == 2 and is_integer(value[1]) and value[1] >= 0


def deciding_makers(outset, makers):
    """Return the list of those of the makers of a row that not all forms have, None if the row meets no form."""
    left = []
    for maker in makers:
        branches = outset.branches_at(maker[2])
        if maker[1] not in branches:
            return None
        if len(branches) > 1:
            left.append(maker)
    return left


class Checking:
    """The check of a tree for the rows of an outset.

    Behind a road, what is left of the rows that meet some form tells which row is the first one of
    the forms there: makers that all forms have need no look.
    """

    def __init__(self, outset):
        self.outset = outset
        self.makers = {}
        found = []
        for index, makers in enumerate(outset.rows):
            left = deciding_makers(outset, makers)
            if left is not None:
                found.append((index, left))
        self.standing = Standing(list({way: True for _, makers in found for way, _, _ in makers}), found)

    def is_right_end(self, value, left):
        """Whether the value is an end to which just the right forms are led."""
        if not is_end(value) or not self.outset.has_values():
            return is_end(value)
        return left == () if value[0] == "none" else left[:1] == ((value[1], 0),)

    def number_at(self, way, known):
        """Return the number of the data shape at a way that may be looked at, None if the value is no such way.

        known are the numbers of the parts of the makers with which ways are known, by the ways.
        """
        if not is_way(way) or way in known:
            return None
        number = self.outset.family.first
        if way != ():
            parts = known.get(way[:-1], ())
            if not 0 <= way[-1] < len(parts):
                return None
            number = parts[way[-1]]
        return number if self.outset.family.is_data(number) else None

    def makers_at(self, number):
        """Return the list of (Name, numbers of the parts) of the branches of a look at a shape."""
        if number not in self.makers:
            self.makers[number] = list(self.outset.branches_at(number).items())
        return self.makers[number]

    def is_right(self, value):
        """Whether the value is a right tree."""
        standing = self.standing
        waiting = [(value, standing.start, {})]
        while waiting:
            tree, left, known = waiting.pop()
            if not is_look(tree):
                if not self.is_right_end(tree, left):
                    return False
                continue
            way = tree[1]
            number = self.number_at(way, known)
            if number is None:
                return False
            makers = self.makers_at(number)
            if not are_branches(tree[2], makers):
                return False
            bit = standing.bits.get(way, 0)
            for (name, parts), branch in zip(makers, tree[2]):
                behind = standing.passed(left, bit, name) if bit else left
                waiting.append((branch[1], behind, {**known, way: parts}))
        return True


def is_right_alone(outset, rows, value):
    """Whether a value that is no look is a right tree for these rows."""
    if not is_end(value) or not outset.has_values():
        return is_end(value)
    for index, pattern in enumerate(rows):
        left = deciding_makers(outset, outset.makers_at(pattern))
        if left is not None:
            # This row is the first one that meets some form.
            return value == ("row", index) and not left
    return value == ("none",)


def is_right_tree(family, rows, value):
    """Whether the value is a right tree for rows, with the first shape of a family."""
    if is_look(value):
        return Checking(Outset(family, rows)).is_right(value)
    return is_right_alone(Outset(family, ()), rows, value)
