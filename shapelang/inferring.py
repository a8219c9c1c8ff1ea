"""Schemes of expressions, derivations, and what clashes in an expression."""

from shapelang.bounds import NODES
from shapelang.clashes import all_clashes, all_repairs, find_clash
from shapelang.equations import all_pairs, numbered_groups, variable_numbers
from shapelang.errors import Clash, NoPlace, TooLarge
from shapelang.groupings import Grouping, equations_at
from shapelang.layouts import Layout
from shapelang.programs import is_place, put_at
from shapelang.schemes import Scheme
from shapelang.shapes import is_formed, variables_of, with_variables
from shapelang.sizes import is_small
from shapelang.unifying import numbered, solved, written


def groups_of(datas, known, expression, *, own=None):
    """Return the groups of equations, one for each place."""
    grouping = Grouping(datas, known, expression, own)
    return tuple([equations_at(grouping, number) for number in range(len(grouping.layout.places))])


def plain_shapes(groups):
    """Return the list of the shapes of the places in the plain solution, which may be too large."""
    nodes, pairs = numbered_groups(groups)
    found = solved(nodes, all_pairs(pairs))
    if found is None:
        raise Clash(find_clash(groups))
    numbers = variable_numbers(nodes)
    places = [place for place in range(len(groups)) if place in numbers]
    shapes = dict(list(zip(places, written(nodes, found, [numbers[place] for place in places]))))
    # A place whose variable is in no equation has its variable.
    return [shapes[place] if place in shapes else place for place in range(len(groups))]


def small_shapes(groups):
    """Return the list of the shapes of the places in the plain solution, if none is too large."""
    shapes = plain_shapes(groups)
    if not all([is_small(shape) for shape in shapes]):
        raise TooLarge(NODES)
    return shapes


def infer(datas, known, expression, *, own=None):
    """Return the scheme of an expression."""
    return Scheme(small_shapes(groups_of(datas, known, expression, own=own))[0])


def derive(datas, known, expression, *, own=None):
    """Return the tuple of the shapes of all places in the plain solution, with variables from 0 on."""
    shapes = small_shapes(groups_of(datas, known, expression, own=own))
    names = [(variable, number) for number, variable in enumerate(variables_of(("all", *shapes)))]
    return tuple([with_variables(shape, dict(names)) for shape in shapes])


def set_nodes(nodes, start):
    """Return the list of the nodes of other shapes, numbered from here on, whose variables stay as they are.

    What must stay is a tuple without parts, whose first item is the variable: it equals itself alone.
    """
    return [(node[0], *[start + part for part in node[1:]]) if isinstance(node, tuple) else (node,) for node in nodes]


def derivation_holds(datas, known, expression, value, *, own=None):
    """Return whether the value is a derivation for an expression."""
    groups = groups_of(datas, known, expression, own=own)
    if not isinstance(value, tuple) or len(value) != len(groups):
        return False
    if not all([is_formed(shape) for shape in value]):
        return False
    nodes, pairs = numbered_groups(groups)
    places = variable_numbers(nodes)
    shapes, numbers = numbered(value)
    told = [(places[place], len(nodes) + number) for place, number in enumerate(numbers) if place in places]
    return solved([*nodes, *set_nodes(shapes, len(nodes))], [*all_pairs(pairs), *told]) is not None


def hole_scheme(datas, known, expression, place, *, own=None):
    """Return the scheme of the shapes that a place may have if the rest is accepted."""
    if not is_place(expression, place) or place not in Layout(expression).scopes:
        raise NoPlace(place)
    shape = plain_shapes(groups_of(datas, known, put_at(expression, place, ("hole",)), own=own))[place]
    if not is_small(shape):
        raise TooLarge(NODES)
    return Scheme(shape)


def clashes_of(datas, known, expression, *, own=None):
    """Return the tuple of all clashes of the places."""
    return all_clashes(groups_of(datas, known, expression, own=own))


def repairs_of(datas, known, expression, *, own=None):
    """Return the tuple of all repairs of the places."""
    return all_repairs(groups_of(datas, known, expression, own=own))
