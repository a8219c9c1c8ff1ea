"""What rows leave out: missing outlines, idle rows, and the forms that each row is the first one of."""

from shapelang.bounds import FORM
from shapelang.counting import is_size
from shapelang.errors import BadSize, Idle, NoRow, TooLarge
from shapelang.families import Family
from shapelang.leasts import ANY
from shapelang.names import is_integer
from shapelang.outlines import Outlining
from shapelang.roads import ends_with, first_led, least_sizes
from shapelang.shares import Sharing
from shapelang.trees import NONE, ends_of, planted
from shapelang.values import parts_of_value
from shapelang.ways import Outset


def first_missing(outset, tree):
    """Return the first missing outline for the rows of an outset with this tree, None if they are complete."""
    if NONE not in [end for end, _ in ends_of(tree)]:
        return None
    return Outlining(outset).first_missing()


def missing(datas, shape, rows):
    """Return the first missing outline, None if the rows are complete."""
    outset = Outset(Family(datas, shape), rows)
    return first_missing(outset, planted(outset))


def outline_makers(family, value):
    """Return the dict of (Name, number of the shape there) by the ways to the makers, None for no outline."""
    makers = {}
    waiting = [(value, (), family.first)]
    while waiting:
        part, way, number = waiting.pop()
        if part == ANY:
            continue
        pairs = parts_of_value(family, number, part)
        if pairs is None:
            return None
        makers[way] = (part[1], number)
        waiting.extend([(inner, (*way, index), shape) for index, (inner, shape) in enumerate(pairs)])
    return makers


def leaves_out(makers, row):
    """Whether no form within an outline with these makers has the makers of a row."""
    return any([way in makers and makers[way][0] != name for way, name, _ in row])


def is_missing(datas, shape, rows, value):
    """Return whether the value is a missing outline."""
    outset = Outset(Family(datas, shape), rows)
    makers = outline_makers(outset.family, value)
    if makers is None or not outset.has_values():
        return False
    if not all([makers[way][0] in outset.branches_at(makers[way][1]) for way in makers]):
        return False
    return all([leaves_out(makers, row) for _, row in outset.rows_with_forms()])


def idle_of(tree, many):
    """Return the ascending tuple of the indexes of the idle ones of so many rows with this tree."""
    met = dict([(end, True) for end, _ in ends_of(tree)])
    return tuple([index for index in range(many) if ("row", index) not in met])


def idle_rows(datas, shape, rows):
    """Return the ascending tuple of the indexes of the idle rows."""
    return idle_of(planted(Outset(Family(datas, shape), rows)), len(rows))


def check_row(rows, number):
    """Raise NoRow if the value is not the index of a row."""
    if not is_integer(number) or not 0 <= number < len(rows):
        raise NoRow(number)


def witness(datas, shape, rows, number):
    """Return the first form whose first row is the one with this index."""
    outset = Outset(Family(datas, shape), rows)
    tree = planted(outset)
    check_row(rows, number)
    ends = ends_with(outset.family, tree, ("row", number))
    if not ends:
        raise Idle(number)
    sizes = least_sizes(outset, ends)
    least = min(sizes)
    if least > FORM:
        raise TooLarge(FORM)
    return first_led(outset, [end for end, size in zip(ends, sizes) if size == least])


def count_met(datas, shape, rows, number, size):
    """Return how many forms of this size have the first row with this index, or none if number is None."""
    outset = Outset(Family(datas, shape), rows)
    tree = planted(outset)
    if number is not None:
        check_row(rows, number)
    if not is_size(size):
        raise BadSize(size)
    ends = ends_with(outset.family, tree, NONE if number is None else ("row", number))
    sharing = Sharing(outset.family, size)
    return sum([sharing.count(size - len(known), list(unknown.values())) for known, unknown in ends])
