"""Texts read as shapes, patterns, expressions, data, definitions and books."""

from shapelang.bounds import NODES, PLACES
from shapelang.errors import TooLarge
from shapelang.parsing import parsed
from shapelang.places import has_room
from shapelang.sizes import is_small


def check_sizes(shapes, expressions):
    """Raise TooLarge if one of the shapes, or then one of the expressions or patterns, is too large."""
    if not all([is_small(shape) for shape in shapes]):
        raise TooLarge(NODES)
    if not all([has_room(expression) for expression in expressions]):
        raise TooLarge(PLACES)


def shapes_of_data(data):
    """Return the list of the shapes of a data."""
    return [part for maker in data[2] for part in maker[1:]]


def shapes_of_definition(definition):
    """Return the list of the signature of a definition, if it has one."""
    return [] if definition[1] is None else [definition[1]]


def parse_shape(value):
    """Return the shape of a text."""
    shape = parsed("<shape>", value)
    check_sizes([shape], [])
    return shape


def parse_pattern(value):
    """Return the pattern of a text."""
    pattern = parsed("<pattern>", value)
    check_sizes([], [pattern])
    return pattern


def parse_expression(value):
    """Return the expression of a text."""
    expression = parsed("<expression>", value)
    check_sizes([], [expression])
    return expression


def parse_data(value):
    """Return the data of a text."""
    data = parsed("<data>", value)
    check_sizes(shapes_of_data(data), [])
    return data


def parse_definition(value):
    """Return the definition of a text."""
    definition = parsed("<definition>", value)
    check_sizes(shapes_of_definition(definition), [definition[2]])
    return definition


def parse_book(value):
    """Return the book of a text."""
    book = parsed("<book>", value)
    datas, definitions = book
    shapes = [shape for data in datas for shape in shapes_of_data(data)]
    signatures = [shape for definition in definitions for shape in shapes_of_definition(definition)]
    check_sizes([*shapes, *signatures], [definition[2] for definition in definitions])
    return book
