"""Known shapes, their makers, and which of them have values."""

from shapelang.bounds import FORM
from shapelang.errors import HasValues, NoMaker, NoValue, TooLarge
from shapelang.families import Family
from shapelang.leasts import least_forms, least_makers
from shapelang.makers import counts_of, data_table, has_known_names
from shapelang.numbering import Numbering
from shapelang.shapes import is_formed, is_shape


def is_known(datas, value):
    """Return whether the value is a known shape."""
    return is_shape(value) and has_known_names(value, counts_of(datas))


def makers_of(datas, shape):
    """Return the tuple of the Names of the makers of a data shape, () for other shapes."""
    family = Family(datas, shape)
    if not family.is_data(family.first):
        return ()
    return tuple([name for name, _ in family.makers[family.first]])


def parts_of(datas, shape, name):
    """Return the tuple of the parts of a maker in the shape."""
    family = Family(datas, shape)
    parts = family.parts_of(family.first, name)
    if parts is None:
        raise NoMaker(name)
    return tuple([family.numbering.written(part) for part in parts])


def least_form(datas, shape):
    """Return the first form of the shape."""
    family = Family(datas, shape)
    sizes, makers = least_makers(family)
    if family.first not in sizes:
        raise NoValue(shape)
    if sizes[family.first] > FORM:
        raise TooLarge(FORM)
    return least_forms(family, sizes, makers)[family.first]


def empty_paper(datas, shape):
    """Return a paper that the shape has no values."""
    family = Family(datas, shape)
    sizes, _ = least_makers(family)
    if family.first in sizes:
        raise HasValues()
    # Each maker of a shape without values has a part without values, which is met, too.
    return tuple([family.numbering.written(number) for number in family.met if number not in sizes])


def is_data_shape(datas, counts, value):
    """Whether the value is a data shape, of whatever size."""
    if not isinstance(value, tuple) or not is_formed(value):
        return False
    return value[0] in data_table(datas) and has_known_names(value, counts)


def has_lost_part(numbering, numbers, node, maker):
    """Whether a maker in the data shape of this node has a part among the shapes of these numbers."""
    return any([numbering.number_of(part, node[1:]) in numbers for part in maker[1:]])


def empty_holds(datas, shape, value):
    """Return whether the value is a paper that the shape has no values."""
    # Too many shapes that are met, and too large ones, are an error whatever the value is.
    Family(datas, shape)
    if not isinstance(value, tuple) or len(value) == 0:
        return False
    counts = counts_of(datas)
    if not all([is_data_shape(datas, counts, item) for item in value]) or value[0] != shape:
        return False
    table = data_table(datas)
    numbering = Numbering()
    numbers = dict([(numbering.number_of(item, ()), True) for item in value])
    if len(numbers) < len(value):
        return False
    for number in numbers:
        node = numbering.nodes[number]
        if not all([has_lost_part(numbering, numbers, node, maker) for maker in table[node[0]]]):
            return False
    return True
