"""What runs work with: numbers, functions, and what makers have made.

A function is a tuple ("fun", number of its block, entries that it keeps). What a maker has made
is a tuple ("make", Name, parts, value, many, levels): value is how it is shown, many how many
integers, makers and functions are in it, and levels how deep it is nested, both no more than
somewhat beyond what is shown. So showing takes no time, however great the value is.
"""

from shapelang.bounds import SHOWN

# A value that is shown is nested at most so many levels.
MOST_LEVELS = 100
# Numbers are counted from 0 to one less.
MODULUS = 1000000
FUN = ("fun",)
LARGE = ("large",)


def made(name, parts):
    """Return what a maker makes of these parts, a tuple."""
    many = 1
    levels = 0
    values = []
    for part in parts:
        if not isinstance(part, tuple):
            many += 1
            levels = max(levels, 1)
            values.append(part)
        elif part[0] == "fun":
            many += 1
            levels = max(levels, 1)
            values.append(FUN)
        else:
            many = many + part[4]
            levels = max(levels, part[5])
            values.append(part[3])
    return ("make", name, parts, ("make", name, *values), min(many, SHOWN + 1), min(levels, MOST_LEVELS) + 1)


def shown(worth):
    """Return how it is shown."""
    if not isinstance(worth, tuple):
        return worth
    if worth[0] == "fun":
        return FUN
    return LARGE if worth[4] > SHOWN or worth[5] > MOST_LEVELS else worth[3]


def worth_of(value):
    """Return what a run works with in the place of a value without functions."""
    if not isinstance(value, tuple):
        return value
    return made(value[1], tuple([worth_of(part) for part in value[2:]]))


def result_of(sign, left, right):
    """Return what an op gives of two numbers."""
    if sign == "+":
        return (left + right) % MODULUS
    if sign == "-":
        return (left - right) % MODULUS
    if sign == "*":
        return left * right % MODULUS
    return made("True" if (left < right if sign == "<" else left == right) else "False", ())
