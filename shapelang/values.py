"""Values and forms of known shapes."""

from shapelang.bounds import NODES
from shapelang.equations import numbered_groups, variable_numbers
from shapelang.errors import BadValue, TooLarge
from shapelang.families import Family
from shapelang.formed import is_worth, kind_of
from shapelang.leasts import ANY
from shapelang.makers import maker_table
from shapelang.names import is_integer, is_name
from shapelang.schemes import Scheme
from shapelang.shapes import normal, with_variables
from shapelang.sizes import is_small
from shapelang.unifying import solved, written

# What stands for any function.
FUN = ("fun",)


def is_make(value):
    """Whether the value is a make of a Name, with whatever parts."""
    return kind_of(value) == "make" and len(value) > 1 and is_name(value[1])


def parts_of_value(family, number, value):
    """Return the list of pairs of the parts of a make and their shapes, None if its maker is not right."""
    if not is_make(value):
        return None
    parts = family.parts_of(number, value[1])
    if parts is None or len(parts) != len(value) - 2:
        return None
    return list(zip(value[2:], parts))


def fits(family, value, is_leaf):
    """Whether the value is made of makers in data shapes, and of what is_leaf tells at other shapes."""
    waiting = [(value, family.first)]
    while waiting:
        part, number = waiting.pop()
        if family.is_data(number):
            pairs = parts_of_value(family, number, part)
            if pairs is None:
                return False
            waiting.extend(pairs)
        elif not is_leaf(part, family.numbering.nodes[number]):
            return False
    return True


def is_leaf_value(value, node):
    """Whether the value is one of Int, or of a shape of functions."""
    if not isinstance(node, tuple):
        return False
    return value == FUN if node[0] == "->" else is_worth(value)


def is_leaf_form(value, node):
    """Whether the value is a form of a variable, Int, or a shape of functions."""
    return value == ANY


def is_value(datas, shape, value):
    """Return whether the value is one of the shape."""
    return fits(Family(datas, shape), value, is_leaf_value)


def is_form(datas, shape, value):
    """Return whether the value is a form of the shape."""
    return fits(Family(datas, shape), value, is_leaf_form)


def form_of(datas, shape, value):
    """Return the form of a value of the shape."""
    if not is_value(datas, shape, value):
        raise BadValue(value)
    done = []
    waiting = [(value, False)]
    while waiting:
        part, ready = waiting.pop()
        if is_integer(part) or part == FUN:
            done.append(ANY)
        elif ready:
            start = len(done) + 2 - len(part)
            form = ("make", part[1], *done[start:])
            del done[start:]
            done.append(form)
        else:
            waiting.append((part, True))
            waiting.extend([(inner, False) for inner in part[:1:-1]])
    return done[0]


def make_equations(makers, value, variable, free):
    """Return the equations of a make with this variable, None if its maker is not known or has other parts.

    Its parts, and then the parameters of its data, have the free variables from this one on.
    """
    if not is_make(value) or value[1] not in makers or len(makers[value[1]][2]) != len(value) - 2:
        return None
    name, many, shapes = makers[value[1]]
    first = free + len(shapes)
    fresh = list(range(first, first + many))
    table = dict(enumerate(fresh))
    equations = [(free + at, with_variables(shape, table)) for at, shape in enumerate(shapes)]
    return [(variable, (name, *fresh)), *equations]


def equations_of(makers, value):
    """Return the list of the equations of a value whose shape has the variable 0, None if it is no value."""
    equations = []
    waiting = [(value, 0)]
    free = 1
    while waiting:
        part, variable = waiting.pop()
        if is_worth(part):
            equations.append((variable, ("Int",)))
        elif part == FUN:
            equations.append((variable, ("->", free, free + 1)))
            free += 2
        else:
            found = make_equations(makers, part, variable, free)
            if found is None:
                return None
            equations.extend(found)
            waiting.extend([(inner, free + at) for at, inner in enumerate(part[2:])])
            free = free + len(part) - 2 + makers[part[1]][1]
    return equations


def scheme_of(datas, value):
    """Return the scheme of all shapes that the value can have, None if it has none."""
    equations = equations_of(maker_table(datas), value)
    if equations is None:
        return None
    nodes, pairs = numbered_groups((equations,))
    found = solved(nodes, pairs[0])
    if found is None:
        return None
    shape = written(nodes, found, [variable_numbers(nodes)[0]])[0]
    if not is_small(shape):
        raise TooLarge(NODES)
    return Scheme(normal(shape))
