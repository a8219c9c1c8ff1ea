"""Shapes that are numbered, so that equal ones are found soon and great ones need not be written out."""


class Numbering:
    """A number for each shape; counts and levels are the nodes and levels of the shapes."""

    def __init__(self):
        self.table = {}
        self.nodes = []
        self.counts = []
        self.levels = []

    def number_of(self, shape, inside):
        """Return the number of a shape with the shapes of these numbers put in for its first variables."""
        if isinstance(shape, tuple):
            return self.number_at((shape[0], *[self.number_of(part, inside) for part in shape[1:]]))
        return inside[shape] if shape < len(inside) else self.number_at(shape)

    def number_at(self, node):
        """Return the number of a variable, or of a tuple of a Name and the numbers of its parts."""
        if node not in self.table:
            parts = node[1:] if isinstance(node, tuple) else ()
            self.table[node] = len(self.nodes)
            self.nodes.append(node)
            self.counts.append(1 + sum([self.counts[part] for part in parts]))
            self.levels.append(1 + max([self.levels[part] for part in parts], default=0))
        return self.table[node]

    def written(self, number):
        """Return the shape with this number."""
        node = self.nodes[number]
        if not isinstance(node, tuple):
            return node
        return (node[0], *[self.written(part) for part in node[1:]])
