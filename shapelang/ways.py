"""The makers in rows, by the ways to them."""

from shapelang.leasts import least_makers


class Outset:
    """A family with rows for its first shape: what the trees of these rows begin with.

    rows are, for each row, the list of (way, Name, number of the shape there) of its makers, in
    the order of their places. valued are the shapes that have values.
    """

    def __init__(self, family, rows):
        self.family = family
        self.valued = least_makers(family)[0]
        self.rows = [self.makers_at(pattern) for pattern in rows]

    def makers_at(self, pattern):
        """Return the list of (way, Name, number of the shape there) of the makers in a pattern."""
        found = []
        waiting = [(pattern, (), self.family.first)]
        while waiting:
            part, way, number = waiting.pop()
            if part[0] == "make":
                found.append((way, part[1], number))
                parts = self.family.parts_of(number, part[1])
                inner = [(part[2 + index], (*way, index), shape) for index, shape in enumerate(parts)]
                waiting.extend(inner[::-1])
        return found

    def branches_at(self, number):
        """Return the list of (Name, numbers of the parts) of the makers of a shape all of whose parts have values."""
        makers = self.family.makers[number]
        return [(name, parts) for name, parts in makers if all([part in self.valued for part in parts])]

    def names_at(self, number):
        """Return the list of the Names of these makers."""
        return [name for name, _ in self.branches_at(number)]

    def has_values(self):
        """Whether the shape of the rows has values."""
        return self.family.first in self.valued


def can_be_met(makers, known):
    """Whether the makers of a row are those with which ways are known; known are the makers by ways."""
    return all([way not in known or known[way] == name for way, name, _ in makers])


def first_left(makers, known):
    """Return the first (way, Name, number) of a row at a way that is not known, None if there is none."""
    for maker in makers:
        if maker[0] not in known:
            return maker
    return None
