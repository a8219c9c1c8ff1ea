"""The makers in rows, by the ways to them."""

from shapelang.leasts import least_makers


class Outset:
    """A family with rows for its first shape: what the trees of these rows begin with.

    rows are, for each row, the list of (way, Name, number of the shape there) of its makers, in
    the order of their places. sizes and chosen are what least_makers finds: the shapes that have
    values are those that have sizes.
    """

    def __init__(self, family, rows):
        self.family = family
        self.sizes, self.chosen = least_makers(family)
        self.branches = {}
        self.rows = [self.makers_at(pattern) for pattern in rows]

    def makers_at(self, pattern):
        """Return the list of (way, Name, number of the shape there) of the makers in a pattern."""
        found = []
        waiting = [(pattern, (), self.family.first)] if pattern[0] == "make" else []
        while waiting:
            part, way, number = waiting.pop()
            found.append((way, part[1], number))
            shapes = self.family.parts_of(number, part[1])
            for index in range(len(part) - 1, 1, -1):
                if part[index][0] == "make":
                    waiting.append((part[index], (*way, index - 2), shapes[index - 2]))
        return found

    def branches_at(self, number):
        """Return the list of (Name, numbers of the parts) of the makers of a shape all of whose parts have values."""
        if number not in self.branches:
            makers = self.family.makers[number]
            self.branches[number] = [
                (name, parts) for name, parts in makers if all([part in self.sizes for part in parts])
            ]
        return self.branches[number]

    def names_at(self, number):
        """Return the list of the Names of these makers."""
        return [name for name, _ in self.branches_at(number)]

    def has_values(self):
        """Whether the shape of the rows has values."""
        return self.family.first in self.sizes

    def meets_some(self, makers):
        """Whether a row with these makers meets some form."""
        return all([name in self.names_at(number) for _, name, number in makers])

    def rows_with_forms(self):
        """Return the list of pairs (index, makers) of the rows that meet some form."""
        return [(index, makers) for index, makers in enumerate(self.rows) if self.meets_some(makers)]


class Standing:
    """Rows, each a pair (index, makers), and what is left of them behind looks.

    Each way to a maker has a bit; greater ways, which come later among the places of each row,
    have greater bits. What is left is a tuple of pairs (index, mask) of the rows that can still be
    met, up to the first one that is met by all: the mask has the bits of the row's makers at which
    no look was yet. names and shapes are, by the indexes of the rows, the makers and the numbers
    of the shapes there by the bits.
    """

    def __init__(self, rows):
        ways = sorted(set([way for _, makers in rows for way, _, _ in makers]))
        self.bits = dict([(way, 1 << at) for at, way in enumerate(ways)])
        self.ways = dict([(self.bits[way], way) for way in ways])
        self.names = {}
        self.shapes = {}
        for index, makers in rows:
            self.names[index] = dict([(self.bits[way], name) for way, name, _ in makers])
            self.shapes[index] = dict([(self.bits[way], number) for way, _, number in makers])
        self.start = self.up_to_met([(index, sum(self.names[index])) for index, _ in rows])

    def up_to_met(self, left):
        """Return the tuple of these pairs up to the first row that is met by all."""
        for at, (_, mask) in enumerate(left):
            if mask == 0:
                return tuple(left[:at + 1])
        return tuple(left)

    def passed(self, left, bit, name):
        """Return what is left behind a look at the way of this bit, by the branch of this maker."""
        found = []
        for index, mask in left:
            if not mask & bit:
                found.append((index, mask))
            elif self.names[index][bit] == name:
                found.append((index, mask - bit))
                if mask == bit:
                    break
        return tuple(found)
