"""Trees that lead each form to its first row."""

from shapelang.bounds import TREE
from shapelang.errors import BadForm, BadRows, TooLarge
from shapelang.families import Family
from shapelang.names import is_integer
from shapelang.rows import first_row, rows_error
from shapelang.treecheck import is_right_tree
from shapelang.values import is_form
from shapelang.ways import Outset, can_be_met, first_left

NONE = ("none",)


class Planting:
    """A tree that is being made; many is how many looks and ends it has so far."""

    def __init__(self, outset):
        self.outset = outset
        self.many = 0

    def tree_at(self, known):
        """Return the tree behind a road on which these ways are known, each with a maker."""
        self.many = self.many + 1
        if self.many > TREE:
            raise TooLarge(TREE)
        if not self.outset.has_values():
            return NONE
        for index, makers in enumerate(self.outset.rows):
            if can_be_met(makers, known):
                left = first_left(makers, known)
                return ("row", index) if left is None else self.look_at(known, left)
        return NONE

    def look_at(self, known, maker):
        """Return the look at the way of a maker of a row."""
        way, _, number = maker
        names = self.outset.names_at(number)
        return ("look", way, tuple([(name, self.tree_at({**known, way: name})) for name in names]))


def tree_of(datas, shape, rows):
    """Return the tree of the rows."""
    return Planting(Outset(Family(datas, shape), rows)).tree_at({})


def tree_holds(datas, shape, rows, value):
    """Return whether the value is a right tree for the rows."""
    return is_right_tree(Outset(Family(datas, shape), rows), value)


def ends_of(tree):
    """Return the list of pairs (end, number of looks on the road to it) of a tree."""
    ends = []
    waiting = [(tree, 0)]
    while waiting:
        place, looks = waiting.pop()
        if place[0] == "look":
            waiting.extend([(branch, looks + 1) for _, branch in place[2][::-1]])
        else:
            ends.append((place, looks))
    return ends


class Tree:
    """The tree of rows for a shape, which tells the first row of each form."""

    def __init__(self, datas, shape, rows):
        error = rows_error(datas, shape, rows)
        if error is not None:
            raise BadRows(error)
        self._shown = tree_of(datas, shape, rows)
        self._ends = [end for end, _ in ends_of(self._shown)]
        self._most = max([looks for _, looks in ends_of(self._shown)])
        self._datas = datas
        self._shape = shape
        self._rows = rows

    @property
    def shown(self):
        """The tree."""
        return self._shown

    def __call__(self, form):
        """Return the index of the first row of a form, None if it has none."""
        if not is_form(self._datas, self._shape, form):
            raise BadForm(form)
        return first_row(self._rows, form)

    def __contains__(self, number):
        return is_integer(number) and ("row", number) in self._ends

    def __len__(self):
        return len(self._ends)

    def __eq__(self, other):
        return isinstance(other, Tree) and self._shown == other._shown

    def __str__(self):
        return f"{len(self._ends)} ends, {self._most} looks"
