"""Shapes, values and texts that several tests use, and a helper to ask for an error."""

LIST = ("List", 1, (("Nil",), ("Cons", 0, ("List", 0))))
INT = ("Int",)
BOOL = ("Bool",)

# "Any value" of many kinds, none of which is a shape, a solution, a clash, a repair or a text.
ODD_VALUES = (
    None, True, False, -1, 10 ** 79, "->", "Int ->", [], [0], {}, {"shape": 0}, (), ((),), (0, 1, "x"),
    ("int",), ("Int", True), ("->", 0), ("->", 0, 1, 2), (("Int",), 0), ("List", [0]), [("Int",)],
    ("Int", None), ("A", 0, 1, 2, 3), ("", 0), (None,), (1.0,), {"a": (1, [2, {"b": None}])},
)


def boxes(many, inner=0):
    """A shape of so many boxes around an inner one."""
    for _ in range(many):
        inner = ("Box", inner)
    return inner


def broad(nodes, leaf=0):
    """A shape with just so many nodes and few levels, whose innermost parts are all the same."""
    if nodes == 1:
        return leaf
    parts = min(3, nodes - 1)
    left = nodes - 1
    sizes = [left // parts + (1 if part < left % parts else 0) for part in range(parts)]
    return ("T", *[broad(size, leaf) for size in sizes])


def gathered(shapes):
    """One shape with all these shapes in it."""
    while len(shapes) > 1:
        shapes = [("T", *shapes[at:at + 3]) for at in range(0, len(shapes), 3)]
    return shapes[0]


def doubling_shapes(many):
    """Two shapes whose meeting has more than 2 ** many nodes."""
    one = [0]
    other = [("Pair", 0, 0)]
    for variable in range(1, many):
        one += [variable, variable]
        other += [variable - 1, ("Pair", variable, variable)]
    return gathered(one), gathered(other)


def listed(value, depth):
    """The value within so many lists."""
    for _ in range(depth):
        value = [value]
    return value


def random_groups(source, many, names=6, depth=2):
    """So many groups of a few small equations."""
    def shape(left):
        if left == 0 or source.random() < 0.6:
            return source.choice([*range(names), *range(names), INT, BOOL])
        name, parts = source.choice([("Box", 1), ("Pair", 2), ("->", 2)])
        return (name, *[shape(left - 1) for _ in range(parts)])

    return tuple(tuple((shape(depth), shape(depth)) for _ in range(source.randrange(4))) for _ in range(many))


def fields_of(error):
    """The fields of an error as a dict."""
    return dict(vars(error))


class Raises:
    """Mixed into a TestCase: asks for an error of a class with just these fields."""

    def refused(self, kind, fields, function, *arguments):
        with self.assertRaises(kind) as caught:
            function(*arguments)
        self.assertIs(type(caught.exception), kind)
        found = fields_of(caught.exception)
        self.assertEqual(found, fields)
        for name, value in fields.items():
            self.assertIs(type(found[name]), type(value))
        return caught.exception
