"""Datas, expressions and their places."""

from shapelang.bounds import DATAS, PLACES
from shapelang.errors import NoPlace, TooLarge
from shapelang.faults import expression_fault
from shapelang.grammar import MOST_MAKERS
from shapelang.layouts import binder_at
from shapelang.makers import KNOWN_NAMES, counts_of, has_known_names, maker_table
from shapelang.names import is_integer, is_name
from shapelang.places import has_room, parts_of_place, places_of
from shapelang.shapes import MOST_PARTS, is_shape, variables_of

# The most parameters of a data.
MOST_PARAMETERS = 2


def is_maker_form(value):
    """Whether the value is a tuple of a Name and not too many shapes."""
    if not isinstance(value, tuple) or not 1 <= len(value) <= MOST_PARTS + 1:
        return False
    return is_name(value[0]) and all([is_shape(part) for part in value[1:]])


def is_data_form(value):
    """Whether the value is a tuple of a Name, a number of parameters and not too many makers."""
    if not isinstance(value, tuple) or len(value) != 3:
        return False
    name, many, makers = value
    if not is_name(name) or not is_integer(many) or not 0 <= many <= MOST_PARAMETERS:
        return False
    if not isinstance(makers, tuple) or len(makers) > MOST_MAKERS:
        return False
    return all([is_maker_form(maker) for maker in makers])


def names_of(data):
    """Return the list of the Name of a data and the Names of its makers."""
    return [data[0], *[maker[0] for maker in data[2]]]


def has_new_names(earlier, data):
    """Whether the Names of a data differ from one another, from the known ones and the earlier ones."""
    names = [*KNOWN_NAMES, *[name for one in earlier for name in names_of(one)], *names_of(data)]
    return len(dict([(name, True) for name in names])) == len(names)


def uses_itself_plainly(shape, data):
    """Whether the data stands in the shape with its own parameters in their order alone."""
    if not isinstance(shape, tuple):
        return True
    if shape[0] == data[0]:
        return shape[1:] == tuple(range(data[1]))
    return all([uses_itself_plainly(part, data) for part in shape[1:]])


def is_part_for(earlier, data, shape):
    """Whether a shape may be a part of a maker of the data."""
    if any([variable >= data[1] for variable in variables_of(shape)]):
        return False
    return has_known_names(shape, counts_of([*earlier, data])) and uses_itself_plainly(shape, data)


def is_data(earlier, value):
    """Whether the value is a data behind the earlier ones."""
    if not is_data_form(value) or not has_new_names(earlier, value):
        return False
    return all([is_part_for(earlier, value, part) for maker in value[2] for part in maker[1:]])


def datas_error(value):
    """Return None for datas, otherwise the index of the first item that is none, and a word."""
    if not isinstance(value, tuple) or len(value) > DATAS:
        return (None, "datas")
    for index, data in enumerate(value):
        if not is_data(value[:index], data):
            return (index, "data")
    return None


def expression_error(datas, known, value):
    """Return None for an expression that fits, otherwise the path to its first fault, and a word."""
    words = dict([(word, True) for word, _ in known])
    fault = expression_fault(maker_table(datas), words, value)
    if fault is not None:
        return fault
    return None if has_room(value) else (None, "size")


def count_places(expression):
    """Return the number of the places."""
    return len(places_of(expression))


def is_place(expression, value):
    """Whether the value is the number of a place."""
    return is_integer(value) and 0 <= value < count_places(expression)


def part_at(expression, place):
    """Return the expression or pattern at a place."""
    if not is_place(expression, place):
        raise NoPlace(place)
    return places_of(expression)[place]


def with_parts(expression, parts):
    """Return the expression or pattern with other parts."""
    if expression[0] == "match":
        return ("match", parts[0], tuple(list(zip(parts[1::2], parts[2::2]))))
    return (*expression[:len(expression) - len(parts)], *parts)


def put_at(expression, place, part):
    """Return the expression with another part at a place, however large it is."""
    if place == 0:
        return part
    parts = list(parts_of_place(expression))
    at = 0
    number = 1
    while place >= number + count_places(parts[at]):
        number = number + count_places(parts[at])
        at += 1
    parts[at] = put_at(parts[at], place - number, part)
    return with_parts(expression, parts)


def replaced(expression, place, part):
    """Return the expression with another part at a place."""
    if not is_place(expression, place):
        raise NoPlace(place)
    result = put_at(expression, place, part)
    if not has_room(result):
        raise TooLarge(PLACES)
    return result


def binder_of(expression, place):
    """Return what binds the word at a place, None if the place is no word in an expression."""
    found = binder_at(expression, place) if is_integer(place) and place >= 0 else ()
    if found == ():
        raise NoPlace(place)
    return found
