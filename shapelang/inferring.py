"""Schemes of expressions, derivations, and what clashes in an expression."""

from shapelang.bounds import NODES
from shapelang.clashes import all_clashes, all_repairs, find_clash
from shapelang.deriving import is_derivation
from shapelang.errors import Clash, NoPlace, TooLarge
from shapelang.groupings import Grouping, equations_at
from shapelang.layouts import Layout
from shapelang.programs import is_place, put_at
from shapelang.schemes import Scheme
from shapelang.shapes import are_shapes
from shapelang.weaving import Weaving, woven


def groups_of(datas, known, expression, *, own=None):
    """Return the groups of equations, one for each place."""
    grouping = Grouping(datas, known, expression, own)
    return tuple([equations_at(grouping, number) for number in range(len(grouping.layout.places))])


def plain_woven(datas, known, expression, own, first):
    """Return the weaving of an expression, and what is found of it from this place on."""
    weaving = Weaving(datas, known, expression, own)
    found = woven(weaving, first)
    if found is None:
        raise Clash(find_clash(groups_of(datas, known, expression, own=own)))
    return weaving, found


def small_shapes(datas, known, expression, own):
    """Return the list of the shapes of the places, with variables from 0 on, if none is too large."""
    weaving, found = plain_woven(datas, known, expression, own, 0)
    if not all([found.is_small(node) for node in weaving.places]):
        raise TooLarge(NODES)
    return [found.shape_of(node) for node in weaving.places]


def infer(datas, known, expression, *, own=None):
    """Return the scheme of an expression."""
    return Scheme(small_shapes(datas, known, expression, own)[0])


def derive(datas, known, expression, *, own=None):
    """Return the tuple of the shapes of all places in the plain solution, with variables from 0 on."""
    return tuple(small_shapes(datas, known, expression, own))


def derivation_holds(datas, known, expression, value, *, own=None):
    """Return whether the value is a derivation for an expression."""
    grouping = Grouping(datas, known, expression, own)
    if not isinstance(value, tuple) or len(value) != len(grouping.layout.places):
        return False
    return are_shapes(value) and is_derivation(grouping, value)


def hole_scheme(datas, known, expression, place, *, own=None):
    """Return the scheme of the shapes that a place may have if the rest is accepted."""
    if not is_place(expression, place) or place in Layout(expression).patterns:
        raise NoPlace(place)
    weaving, found = plain_woven(datas, known, put_at(expression, place, ("hole",)), own, place)
    if not found.is_small(weaving.places[place]):
        raise TooLarge(NODES)
    return Scheme(found.shape_of(weaving.places[place]))


def clashes_of(datas, known, expression, *, own=None):
    """Return the tuple of all clashes of the places."""
    return all_clashes(groups_of(datas, known, expression, own=own))


def repairs_of(datas, known, expression, *, own=None):
    """Return the tuple of all repairs of the places."""
    return all_repairs(groups_of(datas, known, expression, own=own))
