"""Texts of shapes, patterns, expressions, data, definitions and books, with the fewest brackets.

Each form has a number that tells how closely its tokens belong together, and each place in a
form asks for a least number: a form with a lesser one stands there in brackets.
"""

from shapelang.names import variable_text

# Of shapes: an arrow has the number 0. The left side of an arrow asks for a step, a part for an inner one.
STEP = 1
INNER = 2
# Of expressions: a fun and a let have the number 0. The sign of an op tells its own number, and
# those that its left and its right side ask for.
SIGNS = {"<": (1, 2, 2), "=": (1, 2, 2), "+": (2, 2, 3), "-": (2, 2, 3), "*": (3, 3, 4)}
CALL = 4
ATOM = 5


def enclosed(text, close, least):
    """Return the text of a form with this number at a place that asks for the least one."""
    return f"({text})" if close < least else text


def shape_at(shape, least):
    """Return the text of a shape at a place that asks for this number."""
    if not isinstance(shape, tuple):
        return variable_text(shape)
    if shape[0] == "->":
        return enclosed(f"{shape_at(shape[1], STEP)} -> {shape_at(shape[2], 0)}", 0, least)
    return enclosed(named_text(shape), STEP if len(shape) > 1 else INNER, least)


def named_text(named):
    """Return the text of a Name with shapes behind it."""
    return " ".join([named[0], *[shape_at(part, INNER) for part in named[1:]]])


def shape_text(shape):
    """Return the text of a shape."""
    return shape_at(shape, 0)


def pattern_text(pattern):
    """Return the text of a pattern."""
    if pattern[0] == "any":
        return "_"
    if pattern[0] == "word":
        return pattern[1]
    return " ".join([pattern[1], *[inner_text(inner) for inner in pattern[2:]]])


def inner_text(pattern):
    """Return the text of a pattern within another one."""
    text = pattern_text(pattern)
    return f"({text})" if pattern[0] == "make" and len(pattern) > 2 else text


def closeness(expression):
    """Return how closely the tokens of an expression belong together."""
    kind = expression[0]
    if kind in ("fun", "let"):
        return 0
    if kind == "op":
        return SIGNS[expression[1]][0]
    if kind == "call" or (kind == "make" and len(expression) > 2):
        return CALL
    return ATOM


def expression_at(expression, least):
    """Return the text of an expression at a place that asks for this number."""
    write = TEXTS[expression[0]]
    return enclosed(write(expression), closeness(expression), least)


def number_text(expression):
    """Return the text of a number."""
    return str(expression[1])


def word_text(expression):
    """Return the text of a word."""
    return expression[1]


def hole_text(expression):
    """Return the text of a hole, which is the word in front of it."""
    return expression[0]


def make_text(expression):
    """Return the text of a make."""
    return " ".join([expression[1], *[expression_at(part, ATOM) for part in expression[2:]]])


def fun_text(expression):
    """Return the text of a fun."""
    return f"fun {expression[1]} -> {expression_at(expression[2], 0)}"


def call_text(expression):
    """Return the text of a call."""
    function = expression_at(expression[1], CALL)
    # What follows a Name that stands bare would be read as its parts.
    if expression[1][0] == "make":
        function = f"({make_text(expression[1])})"
    return f"{function} {expression_at(expression[2], ATOM)}"


def let_text(expression):
    """Return the text of a let."""
    return f"let {expression[1]} = {expression_at(expression[2], 0)} in {expression_at(expression[3], 0)}"


def op_text(expression):
    """Return the text of an op."""
    _, left, right = SIGNS[expression[1]]
    return f"{expression_at(expression[2], left)} {expression[1]} {expression_at(expression[3], right)}"


def match_text(expression):
    """Return the text of a match."""
    rows = [f"| {pattern_text(pattern)} -> {expression_at(part, 0)}" for pattern, part in expression[2]]
    return " ".join(["match", expression_at(expression[1], 0), "with", *rows, "end"])


TEXTS = {
    "number": number_text,
    "word": word_text,
    "hole": hole_text,
    "make": make_text,
    "fun": fun_text,
    "call": call_text,
    "let": let_text,
    "op": op_text,
    "match": match_text,
}


def expression_text(expression):
    """Return the text of an expression."""
    return expression_at(expression, 0)


def data_text(data):
    """Return the text of a data."""
    name, many, makers = data
    head = " ".join(["data", name, *[variable_text(parameter) for parameter in range(many)]])
    if not makers:
        return head
    texts = ", ".join([named_text(maker) for maker in makers])
    return f"{head} is {texts}"


def definition_text(definition):
    """Return the text of a definition."""
    word, signature, expression = definition
    head = word if signature is None else f"{word} as {shape_text(signature)}"
    return f"{head} is {expression_text(expression)}"


def book_text(book):
    """Return the text of a book."""
    datas, definitions = book
    items = [*[data_text(data) for data in datas], *[definition_text(one) for one in definitions]]
    return "".join([f"{item};\n" for item in items])
