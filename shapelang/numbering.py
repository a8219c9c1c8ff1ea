"""Shapes that are numbered, so that equal ones are found soon and great ones need not be written out."""


class Numbering:
    """A number for each shape; counts and levels are the nodes and levels of the shapes."""

    def __init__(self):
        self.table = {}
        self.nodes = []
        self.counts = []
        self.levels = []

    def number_of(self, shape, inside):
        """Return the number of a shape with the shapes of these numbers put in for its first variables."""
        if not isinstance(shape, tuple):
            return inside[shape] if shape < len(inside) else self.number_at(shape)
        if len(shape) == 1:
            return self.number_at(shape)
        return self.number_at((shape[0], *[self.number_of(part, inside) for part in shape[1:]]))

    def number_at(self, node):
        """Return the number of a variable, or of a tuple of a Name and the numbers of its parts."""
        if node in self.table:
            return self.table[node]
        number = len(self.nodes)
        count = 1
        level = 0
        if isinstance(node, tuple):
            for part in node[1:]:
                count = count + self.counts[part]
                level = self.levels[part] if self.levels[part] > level else level
        self.table[node] = number
        self.nodes.append(node)
        self.counts.append(count)
        self.levels.append(level + 1)
        return number

    def written(self, number):
        """Return the shape with this number."""
        node = self.nodes[number]
        if not isinstance(node, tuple):
            return node
        return (node[0], *[self.written(part) for part in node[1:]])
