"""Missing outlines: the first outline that has forms, none of which any row meets."""

from shapelang.leasts import ANY


class Outlining:
    """The rows of an outset that meet some form, and the first outlines that leave some of them out.

    An outline leaves a row out if both have makers at a way, and not the same. What is found is a
    pair (key, outline), and keys have the order of outlines: (size, index of the maker, keys of
    the parts). Sets of rows are tuples of their indexes.
    """

    def __init__(self, outset):
        self.outset = outset
        self.names = {}
        for index, makers in outset.rows_with_forms():
            self.names[index] = dict([(way, name) for way, name, _ in makers])
        self.found = {}
        self.shared = {}

    def first_missing(self):
        """Return the first missing outline, None if there is none."""
        rows = tuple(self.names)
        if not self.outset.has_values() or not self.have_makers(rows, ()):
            return None
        found = self.first_at((), self.outset.family.first, rows)
        return None if found is None else found[1]

    def have_makers(self, rows, way):
        """Whether each of these rows has a maker at a way."""
        return all([way in self.names[row] for row in rows])

    def first_at(self, way, number, rows):
        """Return what is found at a way, with the shape of this number, for rows that have makers there."""
        if not rows:
            return (0,), ANY
        if (way, rows) not in self.found:
            self.found[(way, rows)] = self.first_maker(way, number, rows)
        return self.found[(way, rows)]

    def first_maker(self, way, number, rows):
        """Return what is found with a maker that has values, None if nothing is."""
        indexes = dict([(name, index) for index, (name, _) in enumerate(self.outset.family.makers[number])])
        best = None
        branches = self.outset.branches_at(number)
        for name in branches:
            parts = branches[name]
            left = tuple([row for row in rows if self.names[row][way] == name])
            found = self.first_parts(way, name, parts, left)
            if found is None:
                continue
            size, keys, outlines = found
            key = (1 + size, indexes[name], *keys)
            if best is None or key < best[0]:
                best = key, ("make", name, *outlines)
        return best

    def first_parts(self, way, name, parts, rows):
        """Return (size, keys, outlines) of the parts that leave these rows out together, None if none do.

        parts are the numbers of the shapes of all parts of the maker, those behind another one alone
        with None in the places of the others.
        """
        if not rows:
            many = len([part for part in parts if part is not None])
            return 0, ((0,),) * many, (ANY,) * many
        places = [place for place, part in enumerate(parts) if part is not None]
        if not places:
            return None
        if (way, name, places[0], rows) not in self.shared:
            self.shared[(way, name, places[0], rows)] = self.best_split(way, name, parts, rows, places[0])
        return self.shared[(way, name, places[0], rows)]

    def best_split(self, way, name, parts, rows, place):
        """Return what first_parts does, by the best of all sets of rows that the part at this place leaves out."""
        inner = (*way, place)
        able = [row for row in rows if inner in self.names[row]]
        later = (*[None for _ in parts[:place + 1]], *parts[place + 1:])
        best = None
        for chosen in subsets(able):
            first = self.first_at(inner, parts[place], chosen)
            rest = None
            if first is not None:
                rest = self.first_parts(way, name, later, tuple([row for row in rows if row not in chosen]))
            if rest is None:
                continue
            total = (first[0][0] + rest[0], (first[0], *rest[1]), (first[1], *rest[2]))
            if best is None or total[:2] < best[:2]:
                best = total
        return best


def subsets(rows):
    """Return the list of all ascending tuples of some of these rows."""
    found = [()]
    for row in rows:
        found = [*found, *[(*chosen, row) for chosen in found]]
    return found
