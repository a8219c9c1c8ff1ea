"""The grammar of the texts.

A rule is a tuple of forms, and a form a tuple of steps. The first form that can begin with the
next token is the right one. A step is one of these:
- a text in angle brackets: the rule of this name;
- a text with an exclamation mark in front: the action of this name, which looks at no token;
- a tuple (most, form): the form as often as it comes, at most so many times (any number if
  most is less than 0);
- any other text: a token, or a kind of tokens.
"""

from shapelang.bounds import DATAS, DEFINITIONS, ROWS
from shapelang.shapes import MOST_PARTS

MOST_MAKERS = 4
ANY_NUMBER = -1
# What the rules may begin with.
FIRSTS = {
    "<shape>": ("a variable", "a Name", "("),
    "<step>": ("a variable", "a Name", "("),
    "<part>": ("a variable", "a Name", "("),
    "<pattern>": ("_", "a word", "a Name", "("),
    "<inner>": ("_", "a word", "a Name", "("),
    "<expression>": ("fun", "let", "a Name", "a number", "a word", "hole", "(", "match"),
    "<compare>": ("a Name", "a number", "a word", "hole", "(", "match"),
    "<sum>": ("a Name", "a number", "a word", "hole", "(", "match"),
    "<product>": ("a Name", "a number", "a word", "hole", "(", "match"),
    "<call>": ("a Name", "a number", "a word", "hole", "(", "match"),
    "<atom>": ("a Name", "a number", "a word", "hole", "(", "match"),
    "<nameless>": ("a number", "a word", "hole", "(", "match"),
    "<data>": ("data",),
    "<maker>": ("a Name",),
    "<definition>": ("a word",),
}


def shape_rules():
    """Return the rules of shapes."""
    return {
        "<shape>": (("<step>", (1, ("->", "<shape>", "!arrow"))),),
        "<step>": (("a Name", "!named", (MOST_PARTS, ("<part>", "!add"))), ("<part>",)),
        "<part>": (("a variable", "!variable"), ("a Name", "!named"), ("(", "<shape>", ")")),
    }


def pattern_rules():
    """Return the rules of patterns."""
    return {
        "<pattern>": (("a Name", "!make", (MOST_PARTS, ("<inner>", "!add"))), ("<inner>",)),
        "<inner>": (("_", "!any"), ("a word", "!word"), ("a Name", "!make"), ("(", "<pattern>", ")")),
    }


def expression_rules():
    """Return the rules of expressions."""
    row = ("|", "<pattern>", "->", "<expression>", "!row")
    return {
        "<expression>": (
            ("fun", "a word", "->", "<expression>", "!fun"),
            ("let", "a word", "=", "<expression>", "in", "<expression>", "!let"),
            ("<compare>",),
        ),
        "<compare>": (("<sum>", (1, ("a sign of compares", "<sum>", "!op"))),),
        "<sum>": (("<product>", (ANY_NUMBER, ("a sign of sums", "<product>", "!op"))),),
        "<product>": (("<call>", (ANY_NUMBER, ("a sign of products", "<call>", "!op"))),),
        "<call>": (
            ("a Name", "!make", (MOST_PARTS, ("<atom>", "!add"))),
            ("<nameless>", (ANY_NUMBER, ("<atom>", "!call"))),
        ),
        "<atom>": (("a Name", "!make"), ("<nameless>",)),
        "<nameless>": (
            ("a number", "!number"),
            ("a word", "!word"),
            ("hole", "!hole"),
            ("(", "<expression>", ")"),
            ("match", "<expression>", "!match", "with", (ROWS, row), "end"),
        ),
    }


def book_rules():
    """Return the rules of data, definitions and books."""
    parameters = (1, ("a", "!parameter", (1, ("b", "!parameter"))))
    more_makers = (MOST_MAKERS - 1, (",", "<maker>", "!maker"))
    datas = (DATAS, ("<data>", ";", "!first"))
    definitions = (DEFINITIONS, ("<definition>", ";", "!second"))
    return {
        "<data>": (("data", "a Name", "!data", parameters, (1, ("is", "<maker>", "!maker", more_makers))),),
        "<maker>": (("a Name", "!named", (MOST_PARTS, ("<part>", "!add"))),),
        "<definition>": (
            ("a word", "!definition", (1, ("as", "<shape>", "!signature")), "is", "<expression>", "!add"),
        ),
        "<book>": (("!book", datas, definitions),),
    }


def all_rules():
    """Return the dict of all rules."""
    shapes, patterns, expressions, books = shape_rules(), pattern_rules(), expression_rules(), book_rules()
    return {**shapes, **patterns, **expressions, **books}
