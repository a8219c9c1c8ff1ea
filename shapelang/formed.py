"""Which values are expressions and patterns by their own items alone, whatever their parts are."""

from shapelang.bounds import ROWS
from shapelang.names import GREATEST, is_integer, is_name, is_word

SIGNS = ("+", "-", "*", "<", "=")
# How many items each form has; a make has any number of parts behind its Name.
ITEMS = {"number": 2, "word": 2, "hole": 1, "fun": 3, "call": 3, "let": 4, "op": 4, "any": 1}
PATTERNS = ("any", "word", "make")


def is_worth(value):
    """Whether the value is a number that an expression or a value may have."""
    return is_integer(value) and 0 <= value <= GREATEST


def is_rows(value):
    """Whether the value is a tuple of not too many pairs."""
    if not isinstance(value, tuple) or len(value) > ROWS:
        return False
    return all([isinstance(row, tuple) and len(row) == 2 for row in value])


def is_sign(value):
    """Whether the value is the sign of an op."""
    return value in SIGNS


def has_second(value, kind):
    """Whether the second item is right for this kind, if it is no expression or pattern."""
    if kind in ("word", "fun", "let"):
        return is_word(value[1])
    if kind == "make":
        return is_name(value[1])
    if kind == "number":
        return is_worth(value[1])
    return kind != "op" or is_sign(value[1])


def kind_of(value):
    """Return the word in front of the value, None if it is no tuple that begins with a text."""
    if not isinstance(value, tuple) or len(value) == 0 or not isinstance(value[0], str):
        return None
    return value[0]


def has_items(value, kind):
    """Whether the number of the items, and a second item that is no part, are right for this kind."""
    if kind == "make":
        return len(value) >= 2 and has_second(value, kind)
    return len(value) == ITEMS[kind] and has_second(value, kind)


def is_expression_form(value):
    """Whether the value is an expression by its own items."""
    kind = kind_of(value)
    if kind == "match":
        return len(value) == 3 and is_rows(value[2])
    return kind != "any" and (kind == "make" or kind in ITEMS) and has_items(value, kind)


def is_pattern_form(value):
    """Whether the value is a pattern by its own items."""
    kind = kind_of(value)
    return kind in PATTERNS and has_items(value, kind)
