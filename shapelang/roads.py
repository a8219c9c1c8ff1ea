"""The roads of a tree to its ends, and the least forms that are led there.

What is told of a road is a pair (known, unknown): the makers of the ways that were looked at, and
the numbers of the shapes at the ways to the other parts of these makers, both by the ways.
"""

from shapelang.leasts import least_forms, least_keys


def ends_with(family, tree, end):
    """Return the list of what is told of the roads to those ends of a tree that are this one."""
    found = []
    waiting = [(tree, {}, {(): family.first})]
    while waiting:
        place, known, unknown = waiting.pop()
        if place[0] == "look":
            waiting.extend([behind(family, place[1], branch, known, unknown) for branch in place[2]])
        elif place == end:
            found.append((known, unknown))
    return found


def behind(family, way, branch, known, unknown):
    """Return what stands behind a branch of the look at a way, and what is told of the road up to it."""
    name, tree = branch
    rest = {**unknown}
    parts = family.parts_of(rest[way], name)
    del rest[way]
    for index, part in enumerate(parts):
        rest[(*way, index)] = part
    return tree, {**known, way: name}, rest


def least_sizes(outset, ends):
    """Return the list of the least sizes of the forms that are led to these ends."""
    sizes = outset.sizes
    return [len(known) + sum([sizes[number] for number in list(unknown.values())]) for known, unknown in ends]


class Leading:
    """The first forms of the shapes of an outset, with keys in the order of forms."""

    def __init__(self, outset):
        self.family = outset.family
        self.forms = least_forms(outset.family, outset.sizes, outset.chosen)
        self.ranks = least_keys(outset.family, outset.sizes, outset.chosen)

    def first_at(self, way, number, known):
        """Return (key, form) of the first form of a shape at a way, with these makers at the known ways."""
        if way not in known:
            return self.ranks[number], self.forms[number]
        names = [name for name, _ in self.family.makers[number]]
        index = names.index(known[way])
        _, parts = self.family.makers[number][index]
        found = [self.first_at((*way, at), part, known) for at, part in enumerate(parts)]
        size = 1 + sum([key[0] for key, _ in found])
        return (size, index, *[key for key, _ in found]), ("make", known[way], *[form for _, form in found])


def first_led(outset, ends):
    """Return the first one of the forms, not too large ones, that are led to these ends."""
    leading = Leading(outset)
    first = outset.family.first
    return min([leading.first_at((), first, known) for known, _ in ends], key=lambda pair: pair[0])[1]
