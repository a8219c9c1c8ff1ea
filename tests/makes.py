"""Datas, random expressions and forms found by a plain look, for several tests."""

from functools import lru_cache

LISTS = ("List", 1, (("Nil",), ("Cons", 0, ("List", 0))))
VOID = ("Void", 0, ())
PAIR = ("Pair", 2, (("Both", 0, 1),))
TREES = ("Tree", 1, (("Leaf",), ("Node", ("Tree", 0), 0, ("Tree", 0))))
ROSE = ("Rose", 1, (("Rosy", 0, ("List", ("Rose", 0))),))
ENDLESS = ("Endless", 1, (("More", 0, ("Endless", 0)), ("Other", ("Void",))))
WORK = ("Work", 2, (("Do", ("->", 0, ("List", 1))), ("Idle", ("Int",), ("Work", 0, 1))))
DATAS = (LISTS, VOID, PAIR, TREES, ROSE, WORK)
BOOLS = ("List", ("Bool",))
KNOWN = (("id", ("->", 0, 0)), ("pick", ("->", 3, ("->", 1, 3))), ("one", ("Int",)), ("all", ("List", 2)))
SMALL_DATAS = (LISTS, VOID, PAIR, ENDLESS)
PARTS = {"Nil": 0, "Cons": 2, "Both": 2, "Leaf": 0, "Node": 3, "True": 0, "False": 0, "Do": 1}


def number(worth=0):
    return ("number", worth)


def word(name):
    return ("word", name)


def make(name, *parts):
    return ("make", name, *parts)


def fun(name, body):
    return ("fun", name, body)


def call(function, argument):
    return ("call", function, argument)


def op(sign, left, right):
    return ("op", sign, left, right)


HOLE = ("hole",)
ANY = ("any",)
NIL = make("Nil")
YES = make("True")
NO = make("False")


def funs(many, inner=HOLE):
    """An expression with so many funs around an inner one."""
    for _ in range(many):
        inner = fun("x", inner)
    return inner


def sums(many):
    """An expression with just so many places, an odd number, and few levels."""
    if many == 1:
        return number(1)
    left = (many - 1) // 2
    left -= 1 - left % 2
    return op("+", sums(left), sums(many - 1 - left))


def random_pattern(source, depth, words):
    """A pattern; its words are taken from the list of words, so that none stands twice."""
    roll = source.random()
    if depth > 0 and roll < 0.5:
        name = source.choice(sorted(PARTS))
        return make(name, *[random_pattern(source, depth - 1, words) for _ in range(PARTS[name])])
    return word(words.pop()) if words and roll < 0.8 else ANY


def random_expression(source, depth, words=("id", "pick", "one", "all")):
    """An expression that fits DATAS and KNOWN, of at most so many levels above the innermost ones."""
    def part(*more):
        return random_expression(source, depth - 1, (*words, *more))

    if depth == 0 or source.random() < 0.15:
        return source.choice([number(source.randrange(1000000)), HOLE, NIL, YES, *[word(name) for name in words] * 2])
    kind = source.choice(["make", "fun", "call", "call", "let", "op", "match", "match"])
    name = source.choice(["x", "y", "id"])
    if kind == "make":
        maker = source.choice(sorted(PARTS))
        return make(maker, *[part() for _ in range(PARTS[maker])])
    if kind == "fun":
        return fun(name, part(name))
    if kind == "call":
        return call(part(), part())
    if kind == "let":
        return ("let", name, part(), part(name))
    if kind == "op":
        return op(source.choice("+-*<="), part(), part())
    rows = []
    for _ in range(source.randrange(4)):
        pattern = random_pattern(source, 2, ["x", "y", "z"])
        rows.append((pattern, part(*[name for name in ("x", "y", "z") if repr(word(name)) in repr(pattern)])))
    return ("match", part(), tuple(rows))


def parts_in(shape, part):
    """The part of a maker in a data shape."""
    if not isinstance(part, tuple):
        return shape[1 + part]
    return (part[0], *[parts_in(shape, inner) for inner in part[1:]])


@lru_cache(maxsize=None)
def forms_listed(datas, shape, size):
    """All forms of just this size, in order, by a plain look."""
    table = {name: makers for name, _, makers in (("Bool", 0, (("False",), ("True",))), *datas)}
    if not isinstance(shape, tuple) or shape[0] not in table:
        return (ANY,) if size == 0 else ()
    found = []
    for name, *parts in table[shape[0]]:
        for inner in products(datas, tuple(parts_in(shape, part) for part in parts), size - 1):
            found.append(make(name, *inner))
    return tuple(found)


def products(datas, shapes, size):
    """All tuples of forms of these shapes with this size together, in order."""
    if not shapes:
        return [()] if size == 0 else []
    return [(form, *rest) for first in range(size + 1) for form in forms_listed(datas, shapes[0], first)
            for rest in products(datas, shapes[1:], size - first)]


def chain_datas(last=()):
    """Six data with two parameters each that need more and more of the earlier ones."""
    datas = [("D0", 2, (("M0", 0, 1), *last))]
    for number_of in range(1, 6):
        part = (f"D{number_of - 1}", 0, 1)
        datas.append((f"D{number_of}", 2, ((f"M{number_of}", part, part),)))
    return tuple(datas)


def arrows(many, inner=("Int",)):
    """A shape with so many functions within one another."""
    for _ in range(many):
        inner = ("->", ("Int",), inner)
    return inner


def meeting(many):
    """Datas with a shape from which just so many shapes are met, 197 to 201."""
    many_parts = [("->", 0, arrows(at)) for at in range(12)]
    data = ("C", 1, tuple((f"C{at}", *many_parts[at:at + 3]) for at in range(0, 12, 3)))
    uses = [("C", arrows(at)) for at in range(15)]
    first = ("T", 0, tuple((f"T{at}", *uses[at:at + 3]) for at in range(0, 12, 3)))
    # The shape S meets itself, T with 156 others, three uses with 13 each, and these functions.
    extra = [("->", ("Bool",), arrows(at)) for at in range(many - 197)]
    parts = [("T",), *uses[12:], *extra]
    return (data, first, ("S", 0, tuple((f"S{at}", *parts[at:at + 3]) for at in range(0, len(parts), 3)))), ("S",)


def all_met(datas, shape):
    """All shapes that are met from a shape, by a plain look."""
    table = {name: found for name, _, found in (("Bool", 0, (("False",), ("True",))), *datas)}
    met, waiting = {shape}, [shape]
    while waiting:
        one = waiting.pop()
        makers = table.get(one[0], ()) if isinstance(one, tuple) else ()
        for part in [parts_in(one, part) for maker in makers for part in maker[1:]]:
            if part not in met:
                met.add(part)
                waiting.append(part)
    return met


def deep_lists(many, inner=("Int",)):
    """A shape of so many lists within one another."""
    for _ in range(many):
        inner = ("List", inner)
    return inner


def too_much_met():
    """Pairs (datas, shape) that meet too many shapes, or one that is too large."""
    wide = ("->", 0, 0)
    for _ in range(4):
        wide = ("->", wide, wide)
    return (
        meeting(201), ((LISTS, ("Own", 1, (("Make", ("List", ("List", 0))),))), ("Own", deep_lists(28))),
        ((("Own", 1, (("Few",), ("Make", ("Int",), ("->", 0, ("->", 0, ("->", 0, 0)))),)),), ("Own", wide)),
    )
