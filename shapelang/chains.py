"""Chains: rows that show equations by earlier rows."""

from shapelang.errors import BadChain
from shapelang.names import is_integer
from shapelang.shapes import same_front


def is_index(value, many):
    """Whether the value is a number from 0 to below this one."""
    return is_integer(value) and 0 <= value < many


def are_same(one, other):
    """Whether two shapes are equal; True is not 1."""
    return one == other and repr(one) == repr(other)


def show_given(groups, shown, row):
    """Return the equation of a group."""
    if not is_integer(row[1]) or row[1] not in groups:
        return None
    group = groups[row[1]]
    return group[row[2]] if is_index(row[2], len(group)) else None


def show_turned(groups, shown, row):
    """Return an equation with its sides exchanged."""
    if not is_index(row[1], len(shown)):
        return None
    one, other = shown[row[1]]
    return (other, one)


def show_joined(groups, shown, row):
    """Return what two equations with the same middle show."""
    if not is_index(row[1], len(shown)) or not is_index(row[2], len(shown)):
        return None
    first, second = shown[row[1]], shown[row[2]]
    return (first[0], second[1]) if are_same(first[1], second[0]) else None


def show_part(groups, shown, row):
    """Return the equation of the parts of two tuples."""
    if not is_index(row[1], len(shown)):
        return None
    one, other = shown[row[1]]
    if not same_front(one, other) or not is_index(row[2], len(one) - 1):
        return None
    return (one[1 + row[2]], other[1 + row[2]])


SHOW = {"given": show_given, "turned": show_turned, "joined": show_joined, "part": show_part}
ITEMS = {"given": 3, "turned": 2, "joined": 3, "part": 3}


def equation_of(groups, shown, row):
    """Return the equation that a row shows behind those shown already, None if it is not a row."""
    if not isinstance(row, tuple) or len(row) == 0:
        return None
    if not isinstance(row[0], str) or row[0] not in SHOW or len(row) != ITEMS[row[0]]:
        return None
    show = SHOW[row[0]]
    return show(groups, shown, row)


def equations_shown(groups, value):
    """Return the list of the equations that the rows of a chain show.

    groups is the dict of those that may be given, by their numbers.
    """
    if not isinstance(value, tuple):
        raise BadChain(None)
    shown = []
    for index, row in enumerate(value):
        equation = equation_of(groups, shown, row)
        if equation is None:
            raise BadChain(index)
        shown.append(equation)
    return shown
