"""Families: all shapes that are met from one shape."""

from shapelang.bounds import DEPTH, MET, NODES
from shapelang.errors import TooLarge
from shapelang.makers import data_table
from shapelang.numbering import Numbering


class Family:
    """The shapes that are met from a shape, by their numbers; the first one is the shape itself.

    makers are, by the numbers of the data shapes, their makers in order, each a tuple (Name,
    numbers of the parts in the data shape); parts are the dicts of the same.
    """

    def __init__(self, datas, shape):
        self.datas = data_table(datas)
        self.numbering = Numbering()
        self.first = self.numbering.number_of(shape, ())
        self.makers = {}
        self.parts = {}
        self.met = {self.first: True}
        waiting = [self.first]
        while waiting:
            number = waiting.pop()
            self.check(number)
            node = self.numbering.nodes[number]
            if not isinstance(node, tuple) or node[0] not in self.datas:
                continue
            makers = [(maker[0], self.parts_in(node, maker)) for maker in self.datas[node[0]]]
            self.makers[number] = makers
            self.parts[number] = dict(makers)
            for _, parts in makers:
                for part in parts:
                    if part not in self.met:
                        self.met[part] = True
                        waiting.append(part)

    def check(self, number):
        """Raise TooLarge if a met shape is too large, or too many are met."""
        numbering = self.numbering
        if len(self.met) > MET or numbering.counts[number] > NODES or numbering.levels[number] > DEPTH:
            raise TooLarge(MET)

    def parts_in(self, node, maker):
        """Return the tuple of the numbers of the parts of a maker in a data shape."""
        if len(maker) == 1:
            return ()
        inside = node[1:]
        return tuple([self.numbering.number_of(part, inside) for part in maker[1:]])

    def is_data(self, number):
        """Whether a met shape is a data shape."""
        return number in self.makers

    def parts_of(self, number, name):
        """Return the tuple of the numbers of the parts of a maker in a met shape, None if it has none such."""
        if number not in self.parts or not isinstance(name, str):
            return None
        return self.parts[number].get(name, None)
