"""The groups of equations of an expression."""

from shapelang.bounds import VARIABLES
from shapelang.errors import TooLarge
from shapelang.layouts import Layout
from shapelang.makers import maker_table
from shapelang.shapes import variables_of, with_variables

INT = ("Int",)
# What an op gives, by its sign.
GIVES = {"+": ("Int",), "-": ("Int",), "*": ("Int",), "<": ("Bool",), "=": ("Bool",)}


def put_fresh(shape, variables, fresh):
    """Return the shape with fresh variables in the place of these ones."""
    return with_variables(shape, dict(list(zip(variables, fresh))))


class Grouping:
    """An expression that fits; starts are the first fresh variables of its places, and the one behind all."""

    def __init__(self, datas, known, expression, own):
        self.layout = Layout(expression)
        self.makers = maker_table(datas)
        self.known = dict(known)
        self.own = own
        self.starts = [len(self.layout.places)]
        for number, place in enumerate(self.layout.places):
            self.starts.append(self.starts[number] + self.count_fresh(number, place))
        if self.starts[-1] > VARIABLES + 1:
            raise TooLarge(VARIABLES)

    def count_fresh(self, number, place):
        """Return how many fresh variables a place has."""
        if place[0] == "make":
            return self.makers[place[1]][1]
        if place[0] == "word" and self.is_free(number):
            return len(variables_of(self.known[place[1]]))
        return 1 if place[0] == "fun" else 0

    def fresh(self, number):
        """Return the list of the fresh variables of a place."""
        return list(range(self.starts[number], self.starts[number + 1]))

    def is_free(self, number):
        """Whether the place is a free word of known."""
        return self.binder(number) == ("free",) and self.layout.places[number][1] != self.own

    def binder(self, number):
        """Return the binder of a word in an expression, None for other places."""
        binders = self.layout.binders
        return binders[number] if number in binders else None


def number_equations(grouping, number):
    """Return the equations of a number."""
    return [(number, INT)]


def no_equations(grouping, number):
    """Return the equations of a place that may be anything."""
    return []


def word_equations(grouping, number):
    """Return the equations of a word."""
    binder = grouping.binder(number)
    if binder is None:
        return []
    if binder[0] == "fun":
        return [(number, grouping.starts[binder[1]])]
    if binder[0] == "row":
        return [(number, binder[1])]
    if binder[0] == "let":
        return [(number, grouping.layout.parts[binder[1]][0])]
    if not grouping.is_free(number):
        return [(number, 0)]
    shape = grouping.known[grouping.layout.places[number][1]]
    return [(number, put_fresh(shape, variables_of(shape), grouping.fresh(number)))]


def op_equations(grouping, number):
    """Return the equations of an op."""
    left, right = grouping.layout.parts[number]
    return [(left, INT), (right, INT), (number, GIVES[grouping.layout.places[number][1]])]


def make_equations(grouping, number):
    """Return the equations of a make."""
    fresh = grouping.fresh(number)
    name, many, shapes = grouping.makers[grouping.layout.places[number][1]]
    parts = grouping.layout.parts[number]
    parameters = list(range(many))
    equations = [(part, put_fresh(shape, parameters, fresh)) for part, shape in zip(parts, shapes)]
    return [*equations, (number, (name, *fresh))]


def fun_equations(grouping, number):
    """Return the equations of a fun."""
    return [(number, ("->", grouping.starts[number], grouping.layout.parts[number][0]))]


def call_equations(grouping, number):
    """Return the equations of a call."""
    function, argument = grouping.layout.parts[number]
    return [(function, ("->", argument, number))]


def let_equations(grouping, number):
    """Return the equations of a let."""
    return [(number, grouping.layout.parts[number][1])]


def match_equations(grouping, number):
    """Return the equations of a match."""
    parts = grouping.layout.parts[number]
    patterns = [(pattern, parts[0]) for pattern in parts[1::2]]
    return [*patterns, *[(part, number) for part in parts[2::2]]]


EQUATIONS = {
    "number": number_equations,
    "hole": no_equations,
    "any": no_equations,
    "word": word_equations,
    "op": op_equations,
    "make": make_equations,
    "fun": fun_equations,
    "call": call_equations,
    "let": let_equations,
    "match": match_equations,
}


def equations_at(grouping, number):
    """Return the tuple of the equations of a place."""
    find_equations = EQUATIONS[grouping.layout.places[number][0]]
    return tuple(find_equations(grouping, number))
