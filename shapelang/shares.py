"""How many forms of a size are led to the ends of a tree."""

from shapelang.tallies import Tally


def product_of(one, other):
    """Return the list of how many pairs of each size there are, by the numbers of the first and the second ones."""
    backwards = other[::-1]
    most = len(other)
    return [
        sum([many * left for many, left in zip(one, backwards[most - 1 - size:]) if many]) for size in range(most)
    ]


class Sharing:
    """The numbers of tuples of forms, up to a size, by the shapes of the parts.

    powers are, by the number of a shape and how often it stands there, the lists of these numbers
    by sizes; products those of several such pairs.
    """

    def __init__(self, family, size):
        tally = Tally(family)
        tally.grow(size)
        self.forms = tally.forms
        self.one = [1, *[0 for _ in range(size)]]
        self.powers = {}
        self.products = {(): self.one}

    def power(self, number, many):
        """Return the list for so many parts of the shape with this number."""
        if many == 1:
            return self.forms[number]
        if (number, many) not in self.powers:
            half = self.power(number, many // 2)
            whole = product_of(half, half)
            self.powers[(number, many)] = whole if many & 1 == 0 else product_of(whole, self.forms[number])
        return self.powers[(number, many)]

    def count(self, size, numbers):
        """Return how many tuples of forms of the shapes with these numbers have this size together."""
        if size < 0:
            return 0
        times = {}
        for number in numbers:
            if self.forms[number] != self.one:
                times[number] = 1 + (times[number] if number in times else 0)
        pairs = tuple(sorted([(number, times[number]) for number in times]))
        for at in range(1, len(pairs) + 1):
            if pairs[:at] not in self.products:
                number, many = pairs[at - 1]
                self.products[pairs[:at]] = product_of(self.products[pairs[:at - 1]], self.power(number, many))
        return self.products[pairs][size]
