"""The makers in rows, by the ways to them."""

from shapelang.leasts import least_makers


class Outset:
    """A family with rows for its first shape: what the trees of these rows begin with.

    rows are, for each row, the list of (way, Name, number of the shape there) of its makers, in
    the order of their places. sizes and chosen are what least_makers finds: the shapes that have
    values are those that have sizes.
    """

    def __init__(self, family, rows):
        self.family = family
        self.sizes, self.chosen = least_makers(family)
        self.branches = {}
        self.rows = [self.makers_at(pattern) for pattern in rows]

    def makers_at(self, pattern):
        """Return the list of (way, Name, number of the shape there) of the makers in a pattern."""
        if pattern[0] != "make":
            return []
        table = self.family.parts
        found = []
        waiting = [(pattern, (), self.family.first)]
        while waiting:
            part, way, number = waiting.pop()
            found.append((way, part[1], number))
            index = len(part) - 2
            if index > 0:
                shapes = table[number][part[1]]
                # From the last part to the first one: this one waits last.
                for inner in part[:1:-1]:
                    index -= 1
                    if inner[0] == "make":
                        waiting.append((inner, (*way, index), shapes[index]))
        return found

    def branches_at(self, number):
        """Return the dict of the parts, by Names, of the makers of a shape all of whose parts have values."""
        if number not in self.branches:
            self.branches[number] = self.makers_with_values(number)
        return self.branches[number]

    def makers_with_values(self, number):
        """Return what branches_at does."""
        found = {}
        for name, parts in self.family.makers[number]:
            if all([part in self.sizes for part in parts]):
                found[name] = parts
        return found

    def has_values(self):
        """Whether the shape of the rows has values."""
        return self.family.first in self.sizes

    def rows_with_forms(self):
        """Return the list of pairs (index, makers) of the rows that meet some form."""
        found = []
        for index, makers in enumerate(self.rows):
            if all([name in self.branches_at(number) for _, name, number in makers]):
                found.append((index, makers))
        return found


class Standing:
    """Rows, each a pair (index, makers), and what is left of them behind looks.

    Each of the ways, which are those of all makers, has a bit: later ways have greater bits. What
    is left is a tuple of pairs (index, mask) of the rows that can still be met, up to the first
    one that is met by all: the mask has the bits of the row's makers at which no look was yet.
    makers are, by the indexes of the rows, the dicts of these makers by the bits.
    """

    def __init__(self, ways, rows):
        self.bits = {way: 1 << at for at, way in enumerate(ways)}
        self.makers = {}
        left = []
        for index, makers in rows:
            self.makers[index] = {self.bits[maker[0]]: maker for maker in makers}
            left.append((index, sum(self.makers[index])))
            if not makers:
                break
        self.start = tuple(left)

    def passed(self, left, bit, name):
        """Return what is left behind a look at the way of this bit, by the branch of this maker."""
        found = []
        for index, mask in left:
            if not mask & bit:
                found.append((index, mask))
            elif self.makers[index][bit][1] == name:
                found.append((index, mask - bit))
                if mask == bit:
                    break
        return tuple(found)
