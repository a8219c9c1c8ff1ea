"""Whether shapes of all places are a derivation: the shape of each place is asked by those of others alone.

What the fresh variables of a place stand for is seen from the shape of the place itself.
"""

from shapelang.groupings import GIVES, INT
from shapelang.shapes import parts_at_variables, with_variables


def is_right_number(grouping, shapes, number):
    """Whether a number has its shape."""
    return shapes[number] == INT


def is_right_blank(grouping, shapes, number):
    """Whether a place that may be anything has its shape."""
    return True


def is_right_word(grouping, shapes, number):
    """Whether a word has the shape of what binds it."""
    binder = grouping.binder(number)
    if binder is None:
        return True
    if binder[0] == "fun":
        # The fun comes ahead of the word: its shape is one of functions.
        return shapes[number] == shapes[binder[1]][1]
    if binder[0] == "row":
        return shapes[number] == shapes[binder[1]]
    if binder[0] == "let":
        return shapes[number] == shapes[grouping.layout.parts[binder[1]][0]]
    if not grouping.is_free(number):
        return shapes[number] == shapes[0]
    return parts_at_variables(grouping.known[grouping.layout.places[number][1]], shapes[number]) is not None


def is_right_op(grouping, shapes, number):
    """Whether an op and its parts have their shapes."""
    left, right = grouping.layout.parts[number]
    if shapes[left] != INT or shapes[right] != INT:
        return False
    return shapes[number] == GIVES[grouping.layout.places[number][1]]


def is_right_make(grouping, shapes, number):
    """Whether a make and its parts have their shapes."""
    name, many, wanted = grouping.makers[grouping.layout.places[number][1]]
    shape = shapes[number]
    if not isinstance(shape, tuple) or shape[0] != name or len(shape) != many + 1:
        return False
    table = dict(enumerate(shape[1:]))
    parts = grouping.layout.parts[number]
    return all([shapes[part] == with_variables(one, table) for part, one in zip(parts, wanted)])


def is_right_fun(grouping, shapes, number):
    """Whether a fun has the shape of functions that give what its body gives."""
    shape = shapes[number]
    return isinstance(shape, tuple) and shape[0] == "->" and shape[2] == shapes[grouping.layout.parts[number][0]]


def is_right_call(grouping, shapes, number):
    """Whether what is called has the shape of functions of the argument that give this place."""
    function, argument = grouping.layout.parts[number]
    return shapes[function] == ("->", shapes[argument], shapes[number])


def is_right_let(grouping, shapes, number):
    """Whether a let has the shape of its second expression."""
    return shapes[number] == shapes[grouping.layout.parts[number][1]]


def is_right_match(grouping, shapes, number):
    """Whether the patterns have the shape of what is matched, and the rows' expressions that of the match."""
    parts = grouping.layout.parts[number]
    if not all([shapes[pattern] == shapes[parts[0]] for pattern in parts[1::2]]):
        return False
    return all([shapes[part] == shapes[number] for part in parts[2::2]])


RIGHT = {
    "number": is_right_number,
    "hole": is_right_blank,
    "any": is_right_blank,
    "word": is_right_word,
    "op": is_right_op,
    "make": is_right_make,
    "fun": is_right_fun,
    "call": is_right_call,
    "let": is_right_let,
    "match": is_right_match,
}


def is_derivation(grouping, shapes):
    """Whether these shapes, one for each place, are a derivation."""
    for number, place in enumerate(grouping.layout.places):
        is_right = RIGHT[place[0]]
        if not is_right(grouping, shapes, number):
            return False
    return True
