"""Trees that lead each form to its first row."""

from shapelang.bounds import TREE
from shapelang.errors import BadForm, BadRows, TooLarge
from shapelang.families import Family
from shapelang.names import is_integer
from shapelang.rows import first_row, rows_error
from shapelang.treecheck import is_right_tree
from shapelang.values import is_form
from shapelang.ways import Outset, Standing

NONE = ("none",)


class Planting:
    """A tree that is being made; many is how many looks and ends it has so far.

    known are the trees behind what is left of the rows, with the numbers of their looks and ends:
    the same may be left behind many roads.
    """

    def __init__(self, outset):
        self.outset = outset
        rows = list(enumerate(outset.rows)) if outset.has_values() else []
        # In this order the first of several ways comes first among the places of each row.
        self.standing = Standing(sorted(set([way for _, makers in rows for way, _, _ in makers])), rows)
        self.many = 0
        self.known = {}

    def add(self, many):
        """Note that the tree has so many looks and ends more."""
        self.many = self.many + many
        if self.many > TREE:
            raise TooLarge(TREE)

    def tree_at(self, left):
        """Return the tree behind a road on which so much is left of the rows."""
        if left in self.known:
            tree, many = self.known[left]
            self.add(many)
            return tree
        before = self.many
        self.add(1)
        tree = NONE
        if left != ():
            index, mask = left[0]
            tree = ("row", index) if mask == 0 else self.look_at(left, mask & -mask)
        self.known[left] = (tree, self.many - before)
        return tree

    def look_at(self, left, bit):
        """Return the look at the way of this bit, which the first row has."""
        way, _, number = self.standing.makers[left[0][0]][bit]
        names = list(self.outset.branches_at(number))
        return ("look", way, tuple([(name, self.tree_at(self.standing.passed(left, bit, name))) for name in names]))


def planted(outset):
    """Return the tree of the rows of an outset."""
    planting = Planting(outset)
    return planting.tree_at(planting.standing.start)


def tree_of(datas, shape, rows):
    """Return the tree of the rows."""
    return planted(Outset(Family(datas, shape), rows))


def tree_holds(datas, shape, rows, value):
    """Return whether the value is a right tree for the rows."""
    return is_right_tree(Family(datas, shape), rows, value)


def ends_of(tree):
    """Return the list of pairs (end, number of looks on the road to it) of a tree."""
    ends = []
    waiting = [(tree, 0)]
    while waiting:
        place, looks = waiting.pop()
        if place[0] == "look":
            waiting.extend([(branch, looks + 1) for _, branch in place[2][::-1]])
        else:
            ends.append((place, looks))
    return ends


class Tree:
    """The tree of rows for a shape, which tells the first row of each form."""

    def __init__(self, datas, shape, rows):
        error = rows_error(datas, shape, rows)
        if error is not None:
            raise BadRows(error)
        self._shown = tree_of(datas, shape, rows)
        ends = ends_of(self._shown)
        self._ends = [end for end, _ in ends]
        self._most = max([looks for _, looks in ends])
        self._datas = datas
        self._shape = shape
        self._rows = rows

    @property
    def shown(self):
        """The tree."""
        return self._shown

    def __call__(self, form):
        """Return the index of the first row of a form, None if it has none."""
        if not is_form(self._datas, self._shape, form):
            raise BadForm(form)
        return first_row(self._rows, form)

    def __contains__(self, number):
        return is_integer(number) and ("row", number) in self._ends

    def __len__(self):
        return len(self._ends)

    def __eq__(self, other):
        return isinstance(other, Tree) and self._shown == other._shown

    def __str__(self):
        return f"{len(self._ends)} ends, {self._most} looks"
