"""Forms counted and numbered in their order, without listing them."""

from shapelang.bounds import SIZES
from shapelang.errors import BadForm, BadSize, NoIndex
from shapelang.families import Family
from shapelang.names import is_integer
from shapelang.tallies import Tally
from shapelang.values import fits, is_leaf_form


def is_size(value):
    """Whether the value is a size that is counted."""
    return is_integer(value) and 0 <= value <= SIZES


def size_of(form):
    """Return how many makers are in a form or a value."""
    size = 0
    waiting = [form]
    while waiting:
        part = waiting.pop()
        if isinstance(part, tuple) and part[0] == "make":
            size += 1
            waiting.extend(part[2:])
    return size


def tally_of(datas, shape, size):
    """Return the tally of a shape up to this size, any value, and the number of the shape."""
    family = Family(datas, shape)
    if not is_size(size):
        raise BadSize(size)
    tally = Tally(family)
    tally.grow(size)
    return tally, family.first


def count_forms(datas, shape, size):
    """Return the number of the forms of the shape with this size."""
    tally, number = tally_of(datas, shape, size)
    return tally.forms[number][size]


def form_at(datas, shape, size, index):
    """Return the form of the shape with this size and this index."""
    tally, number = tally_of(datas, shape, size)
    if not is_integer(index) or not 0 <= index < tally.forms[number][size]:
        raise NoIndex(index)
    return tally.form_at(number, size, index)


def index_of(datas, shape, form):
    """Return the index of a form among those of its size."""
    if not fits(Family(datas, shape), form, is_leaf_form):
        raise BadForm(form)
    tally, number = tally_of(datas, shape, size_of(form))
    return tally.index_of(number, form)[1]


def each_form(datas, shape, *, size=0):
    """Yield the forms of the shape in their order, from this size on."""
    tally, number = tally_of(datas, shape, size)
    for now in range(size, SIZES + 1):
        tally.grow(now)
        for index in range(tally.forms[number][now]):
            yield tally.form_at(number, now, index)
