"""Tallies: how many forms of each size the shapes of a family have, found size by size."""

from shapelang.leasts import ANY


class Tally:
    """The numbers of forms of the shapes of a family.

    forms are, by the numbers of the shapes, the lists of how many forms of each size there are.
    ways are, by the numbers of the data shapes, for each maker and each of its parts, and for no
    part left, the lists of how many ways there are to fill this part and all behind it.
    """

    def __init__(self, family):
        self.family = family
        self.sizes = 0
        self.forms = dict([(number, []) for number in family.met])
        self.ways = {}
        for number in family.makers:
            self.ways[number] = [[[] for _ in range(len(maker[1]) + 1)] for maker in family.makers[number]]

    def grow(self, size):
        """Find the numbers up to this size."""
        while self.sizes <= size:
            for number in list(self.forms):
                self.forms[number].append(self.count_next(number))
            for number in list(self.ways):
                for at, (_, parts) in enumerate(self.family.makers[number]):
                    self.fill_next(parts, self.ways[number][at])
            self.sizes = self.sizes + 1

    def count_next(self, number):
        """Return how many forms of the next size a shape has."""
        if number not in self.ways:
            return 1 if self.sizes == 0 else 0
        if self.sizes == 0:
            return 0
        return sum([lists[0][self.sizes - 1] for lists in self.ways[number]])

    def fill_next(self, parts, lists):
        """Add the next number of ways to each list of a maker, from the last part to the first one."""
        lists[-1].append(1 if self.sizes == 0 else 0)
        for at in range(len(parts) - 1, -1, -1):
            forms, rest = self.forms[parts[at]], lists[at + 1]
            # Most sizes have no forms at all in many shapes.
            lists[at].append(sum([many * left for many, left in zip(forms, rest[::-1]) if many]))

    def form_at(self, number, size, index):
        """Return the form with this index among those of a shape with this size."""
        if number not in self.ways:
            return ANY
        at = 0
        while index >= self.ways[number][at][0][size - 1]:
            index = index - self.ways[number][at][0][size - 1]
            at += 1
        name, parts = self.family.makers[number][at]
        return ("make", name, *self.parts_at(parts, self.ways[number][at], size - 1, index))

    def parts_at(self, parts, lists, size, index):
        """Return the list of the parts with this index among those with this size together."""
        found = []
        for at, part in enumerate(parts):
            first = 0
            while index >= self.forms[part][first] * lists[at + 1][size - first]:
                index = index - self.forms[part][first] * lists[at + 1][size - first]
                first += 1
            size = size - first
            place, index = divmod(index, lists[at + 1][size])
            found.append(self.form_at(part, first, place))
        return found

    def index_of(self, number, form):
        """Return the size of a form, and its index among those of a shape with this size."""
        if number not in self.ways:
            return 0, 0
        names = [name for name, _ in self.family.makers[number]]
        at = names.index(form[1])
        found = [self.index_of(part, inner) for part, inner in zip(self.family.makers[number][at][1], form[2:])]
        left = sum([size for size, _ in found])
        index = sum([lists[0][left] for lists in self.ways[number][:at]])
        size = left + 1
        for place, (part, lists) in enumerate(zip(self.family.makers[number][at][1], self.ways[number][at][1:])):
            first, rank = found[place]
            before = sum([self.forms[part][few] * lists[left - few] for few in range(first)])
            left = left - first
            index = index + before + rank * lists[left]
        return size, index
