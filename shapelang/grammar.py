"""The grammar of the texts.

A rule is a tuple of forms, and a form a tuple of steps. The first form that can begin with the
next token is the right one. A step is one of these:
- a text in angle brackets: the rule of this name;
- a text with an exclamation mark in front: the action of this name, which looks at no token;
- a tuple of repeats, one behind another, each a tuple (most, form): the form as often as it
  comes, at most so many times (any number if most is less than 0);
- any other text: a token, or a kind of tokens.
What an expression goes on with behind its first atom, from the closest tokens to the farthest
ones, stands in one such tuple: so a closing bracket is asked once whether it belongs there.
"""

from shapelang.bounds import DATAS, DEFINITIONS, ROWS
from shapelang.shapes import MOST_PARTS

MOST_MAKERS = 4
ANY_NUMBER = -1
# What the rules may begin with.
FIRSTS = {
    "<shape>": ("a variable", "a Name", "("),
    "<part>": ("a variable", "a Name", "("),
    "<pattern>": ("_", "a word", "a Name", "("),
    "<inner>": ("_", "a word", "a Name", "("),
    "<expression>": ("fun", "let", "a Name", "a number", "a word", "hole", "(", "match"),
    "<sum>": ("a Name", "a number", "a word", "hole", "(", "match"),
    "<product>": ("a Name", "a number", "a word", "hole", "(", "match"),
    "<call>": ("a Name", "a number", "a word", "hole", "(", "match"),
    "<atom>": ("a Name", "a number", "a word", "hole", "(", "match"),
    "<nameless>": ("a number", "a word", "hole", "(", "match"),
    "<data>": ("data",),
    "<maker>": ("a Name",),
    "<definition>": ("a word",),
}


def shape_rules():
    """Return the rules of shapes."""
    arrow = (1, ("->", "<shape>", "!arrow"))
    return {
        "<shape>": (("a Name", "!named", ((MOST_PARTS, ("<part>", "!add")), arrow)), ("<part>", (arrow,))),
        "<part>": (("a variable", "!variable"), ("a Name", "!named"), ("(", "<shape>", ")")),
    }


def pattern_rules():
    """Return the rules of patterns."""
    return {
        "<pattern>": (("a Name", "!make", ((MOST_PARTS, ("<inner>", "!add")),)), ("<inner>",)),
        "<inner>": (("_", "!any"), ("a word", "!word"), ("a Name", "!make"), ("(", "<pattern>", ")")),
    }


def operand_forms(*repeats):
    """Return the forms of an operand: a call, and behind it these repeats."""
    return (
        ("a Name", "!make", ((MOST_PARTS, ("<atom>", "!add")), *repeats)),
        ("<nameless>", ((ANY_NUMBER, ("<atom>", "!call")), *repeats)),
    )


def operand_rules():
    """Return the rules of what stands between signs, and of whole expressions."""
    products = (ANY_NUMBER, ("a sign of products", "<call>", "!op"))
    sums = (ANY_NUMBER, ("a sign of sums", "<product>", "!op"))
    compares = (1, ("a sign of compares", "<sum>", "!op"))
    return {
        "<call>": operand_forms(),
        "<product>": operand_forms(products),
        "<sum>": operand_forms(products, sums),
        "<expression>": (
            ("fun", "a word", "->", "<expression>", "!fun"),
            ("let", "a word", "=", "<expression>", "in", "<expression>", "!let"),
            *operand_forms(products, sums, compares),
        ),
    }


def atom_rules():
    """Return the rules of atoms."""
    rows = ((ROWS, ("|", "<pattern>", "->", "<expression>", "!row")),)
    return {
        "<atom>": (("a Name", "!make"), ("<nameless>",)),
        "<nameless>": (
            ("a number", "!number"),
            ("a word", "!word"),
            ("hole", "!hole"),
            ("(", "<expression>", ")"),
            ("match", "<expression>", "!match", "with", rows, "end"),
        ),
    }


def book_rules():
    """Return the rules of data, definitions and books."""
    parameters = (1, ("a", "!parameter", ((1, ("b", "!parameter")),)))
    more_makers = ((MOST_MAKERS - 1, (",", "<maker>", "!maker")),)
    makers = (1, ("is", "<maker>", "!maker", more_makers))
    signature = ((1, ("as", "<shape>", "!signature")),)
    return {
        "<data>": (("data", "a Name", "!data", (parameters, makers)),),
        "<maker>": (("a Name", "!named", ((MOST_PARTS, ("<part>", "!add")),)),),
        "<definition>": (("a word", "!definition", signature, "is", "<expression>", "!add"),),
        "<book>": (("!book", ((DATAS, ("<data>", ";", "!first")), (DEFINITIONS, ("<definition>", ";", "!second")))),),
    }


def expression_rules():
    """Return the rules of expressions and of the patterns in them."""
    patterns, operands, atoms = pattern_rules(), operand_rules(), atom_rules()
    return {**patterns, **operands, **atoms}


def rules_for(name):
    """Return the dict of the rules that the rule of this name needs."""
    if name == "<shape>":
        return shape_rules()
    if name == "<pattern>":
        return pattern_rules()
    if name == "<expression>":
        return expression_rules()
    shapes, expressions, books = shape_rules(), expression_rules(), book_rules()
    return {**shapes, **expressions, **books}
