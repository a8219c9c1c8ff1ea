"""Whether a value is a right tree, whoever made it."""

from shapelang.formed import kind_of
from shapelang.names import is_integer
from shapelang.ways import Standing


def is_way(value):
    """Whether the value is a tuple of integers."""
    return isinstance(value, tuple) and all([is_integer(item) for item in value])


def are_branches(value, makers):
    """Whether the value is a tuple of pairs that begin with the Names of these makers."""
    if not isinstance(value, tuple) or len(value) != len(makers):
        return False
    for branch, maker in zip(value, makers):
        if not isinstance(branch, tuple) or len(branch) != 2 or branch[0] != maker[0]:
            return False
    return True


def deciding(outset):
    """Return the list of pairs (index, makers) of the rows that meet some form, without makers that all forms have."""
    return [
        (index, [maker for maker in makers if len(outset.branches_at(maker[2])) > 1])
        for index, makers in outset.rows_with_forms()
    ]


class Checking:
    """The check of a tree for the rows of an outset.

    Behind a road, what is left of the rows that meet some form tells which row is the first one of
    the forms there: makers that all forms have need no look.
    """

    def __init__(self, outset):
        self.outset = outset
        self.standing = Standing(deciding(outset))

    def is_right_end(self, value, left):
        """Whether the value is an end to which just the right forms are led."""
        if value == ("none",):
            return left == () or not self.outset.has_values()
        if kind_of(value) != "row" or len(value) != 2 or not is_integer(value[1]) or value[1] < 0:
            return False
        return left[:1] == ((value[1], 0),) or not self.outset.has_values()

    def makers_at(self, tree, unknown):
        """Return the branches that a look must have, None if it may not stand here.

        unknown are the numbers of the shapes at the ways that may be looked at, by the ways.
        """
        if len(tree) != 3 or not is_way(tree[1]) or tree[1] not in unknown:
            return None
        makers = self.outset.branches_at(unknown[tree[1]])
        return makers if are_branches(tree[2], makers) else None

    def unknown_parts(self, way, parts):
        """Return the dict of those of these parts of the maker at a way that are data shapes."""
        datas = self.outset.family.makers
        return dict([((*way, index), part) for index, part in enumerate(parts) if part in datas])

    def is_right(self, value):
        """Whether the value is a right tree."""
        first = self.outset.family.first
        waiting = [(value, self.standing.start, {(): first} if self.outset.family.is_data(first) else {})]
        while waiting:
            tree, left, unknown = waiting.pop()
            if kind_of(tree) != "look":
                if not self.is_right_end(tree, left):
                    return False
                continue
            makers = self.makers_at(tree, unknown)
            if makers is None:
                return False
            way = tree[1]
            bit = self.standing.bits[way] if way in self.standing.bits else 0
            rest = {**unknown}
            del rest[way]
            for (name, parts), branch in zip(makers, tree[2]):
                behind = self.standing.passed(left, bit, name) if bit else left
                waiting.append((branch[1], behind, {**rest, **self.unknown_parts(way, parts)} if parts else rest))
        return True


def is_right_tree(outset, value):
    """Whether the value is a right tree for the rows."""
    return Checking(outset).is_right(value)
