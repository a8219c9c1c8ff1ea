"""What is made of a text, while it is read, from the kept tokens and what is made of earlier ones.

Each action changes the end of the list of what is made.
"""

from shapelang.names import variable_of


def make_named(made):
    """Make a tuple of a Name, to which parts may be added."""
    made.append((made.pop(),))


def add_part(made):
    """Add what was made last to the tuple ahead of it."""
    part = made.pop()
    made.append((*made.pop(), part))


def make_variable(made):
    """Make a variable of its text."""
    made.append(variable_of(made.pop()))


def make_arrow(made):
    """Make a shape of functions."""
    result = made.pop()
    made.append(("->", made.pop(), result))


def make_make(made):
    """Make a make of a Name, to which parts may be added."""
    made.append(("make", made.pop()))


def make_any(made):
    """Make the pattern that meets any value."""
    made.append(("any",))


def make_word(made):
    """Make an expression or a pattern of a word."""
    made.append(("word", made.pop()))


def make_number(made):
    """Make an expression of a number."""
    made.append(("number", int(made.pop())))


def make_hole(made):
    """Make a hole."""
    made.append(("hole",))


def make_fun(made):
    """Make a fun of its word and its body."""
    body = made.pop()
    made.append(("fun", made.pop(), body))


def make_let(made):
    """Make a let of its word and two expressions."""
    body = made.pop()
    worth = made.pop()
    made.append(("let", made.pop(), worth, body))


def make_call(made):
    """Make a call of a function and its argument."""
    argument = made.pop()
    made.append(("call", made.pop(), argument))


def make_op(made):
    """Make an op of its left side, its sign and its right side."""
    right = made.pop()
    sign = made.pop()
    made.append(("op", sign, made.pop(), right))


def make_match(made):
    """Make a match without rows of what is matched."""
    made.append(("match", made.pop(), ()))


def add_row(made):
    """Add a row to a match."""
    part = made.pop()
    pattern = made.pop()
    kind, matched, rows = made.pop()
    made.append((kind, matched, (*rows, (pattern, part))))


def make_data(made):
    """Make a data without parameters and makers of its Name."""
    made.append((made.pop(), 0, ()))


def add_parameter(made):
    """Add a parameter to a data."""
    name, many, makers = made.pop()
    made.append((name, many + 1, makers))


def add_maker(made):
    """Add a maker to a data."""
    maker = made.pop()
    name, many, makers = made.pop()
    made.append((name, many, (*makers, maker)))


def make_definition(made):
    """Make the beginning of a definition, without a signature, of its word."""
    made.append((made.pop(), None))


def put_signature(made):
    """Put a signature into the beginning of a definition."""
    signature = made.pop()
    word, _ = made.pop()
    made.append((word, signature))


def make_book(made):
    """Make an empty book."""
    made.append(((), ()))


def add_data(made):
    """Add a data to a book."""
    data = made.pop()
    datas, definitions = made.pop()
    made.append(((*datas, data), definitions))


def add_definition(made):
    """Add a definition to a book."""
    definition = made.pop()
    datas, definitions = made.pop()
    made.append((datas, (*definitions, definition)))


ACTIONS = {
    "!named": make_named,
    "!add": add_part,
    "!variable": make_variable,
    "!arrow": make_arrow,
    "!make": make_make,
    "!any": make_any,
    "!word": make_word,
    "!number": make_number,
    "!hole": make_hole,
    "!fun": make_fun,
    "!let": make_let,
    "!call": make_call,
    "!op": make_op,
    "!match": make_match,
    "!row": add_row,
    "!data": make_data,
    "!parameter": add_parameter,
    "!maker": add_maker,
    "!definition": make_definition,
    "!signature": put_signature,
    "!book": make_book,
    "!first": add_data,
    "!second": add_definition,
}
