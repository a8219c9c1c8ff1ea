"""What the matches within an expression leave out."""

from shapelang.families import Family
from shapelang.inferring import small_shapes
from shapelang.missing import first_missing, idle_of
from shapelang.places import places_of
from shapelang.trees import planted
from shapelang.ways import Outset


def judged(datas, shape, match):
    """Return the first missing outline, or None, and the tuple of the idle rows of a match over this shape."""
    rows = tuple([pattern for pattern, _ in match[2]])
    outset = Outset(Family(datas, shape), rows)
    tree = planted(outset)
    return first_missing(outset, tree), idle_of(tree, len(rows))


def matches_of(datas, known, expression, *, own=None):
    """Return the tuple of (place, first missing outline or None, idle rows) of all matches of the expression."""
    shapes = small_shapes(datas, known, expression, own)
    found = []
    for place, part in enumerate(places_of(expression)):
        if part[0] == "match":
            # What is matched is the place behind the match.
            found.append((place, *judged(datas, shapes[place + 1], part)))
    return tuple(found)
