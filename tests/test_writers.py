import random
import re
import unittest
from itertools import combinations

from samples import BOOL, INT, LIST, boxes, broad
from shapelang.errors import BadText
from shapelang.readers import parse_book, parse_data, parse_definition, parse_expression, parse_pattern, parse_shape
from shapelang.writers import book_text, data_text, definition_text, expression_text, pattern_text, shape_text

F, X, Y = ("word", "f"), ("word", "x"), ("word", "y")
ONE, NIL, HOLE, ANY = ("number", 1), ("make", "Nil"), ("hole",), ("any",)
PART = ("make", "Box", X)


def matching(tokens):
    """The pairs of indexes of brackets that belong together."""
    pairs, waiting = [], []
    for at, token in enumerate(tokens):
        if token == "(":
            waiting.append(at)
        elif token == ")":
            pairs.append((waiting.pop(), at))
    return pairs


def random_shape(source, depth):
    kind = source.randrange(6) if depth else 0
    if kind <= 1:
        return source.choice([0, 25, 26, 199, INT, BOOL])
    if kind <= 3:
        return ("->", random_shape(source, depth - 1), random_shape(source, depth - 1))
    return ("T", *[random_shape(source, depth - 1) for _ in range(source.randrange(4))])


def random_pattern(source, depth):
    kind = source.randrange(4) if depth else source.randrange(3)
    if kind < 3:
        return (ANY, X, NIL)[kind]
    return ("make", "Cons", *[random_pattern(source, depth - 1) for _ in range(source.randrange(4))])


def random_expression(source, depth):
    def inner():
        return random_expression(source, depth - 1)

    kind = source.randrange(10) if depth else 0
    if kind <= 1:
        return source.choice([ONE, X, Y, HOLE, NIL])
    if kind == 2:
        return ("make", "Cons", *[inner() for _ in range(source.randrange(4))])
    if kind == 3:
        return ("fun", "x", inner())
    if kind <= 5:
        return ("call", inner(), inner())
    if kind == 6:
        return ("let", "x", inner(), inner())
    if kind == 7:
        rows = [(random_pattern(source, 1), inner()) for _ in range(source.randrange(3))]
        return ("match", inner(), tuple(rows))
    return ("op", source.choice("+-*<="), inner(), inner())


class Asked(unittest.TestCase):
    def texts(self, write, read, table):
        for text, value in table.items():
            self.assertEqual(write(value), text)
            self.exact(write, read, value)

    def exact(self, write, read, value):
        """The text is read as the value, has its blanks, and no brackets that could be left out."""
        text = write(value)
        self.assertEqual(read(text), value)
        tokens = re.findall(r"[A-Za-z0-9]+|->|[^ \n]", text)
        pairs = matching(tokens)
        for many in range(1, len(pairs) + 1):
            if many > 3 and len(pairs) > 7:
                break
            for chosen in combinations(pairs, many):
                left_out = [at for pair in chosen for at in pair]
                rest = " ".join(token for at, token in enumerate(tokens) if at not in left_out)
                try:
                    self.assertNotEqual(read(rest), value, (text, rest))
                except BadText:
                    pass
        blanks = re.sub(r" ([),;])", r"\1", " ".join(tokens).replace("( ", "("))
        self.assertEqual(text.replace("\n", ""), re.sub("; ", ";", blanks))


class Shapes(Asked):
    def test_forms(self):
        self.texts(shape_text, parse_shape, {
            "a": 0, "z": 25, "a1": 26, "z1": 51, "r7": 199, "Int": INT, "List a": ("List", 0), "a -> b": ("->", 0, 1),
            "T (List a) (a -> b) Int": ("T", ("List", 0), ("->", 0, 1), INT),
            "List (List (List a))": ("List", ("List", ("List", 0))), "a -> b -> c": ("->", 0, ("->", 1, 2)),
            "(a -> b) -> c": ("->", ("->", 0, 1), 2), "List a -> List b": ("->", ("List", 0), ("List", 1)),
            "((a -> b) -> c) -> (d -> a) -> b": ("->", ("->", ("->", 0, 1), 2), ("->", ("->", 3, 0), 1)),
        })

    def test_long_chains(self):
        left = right = 0
        for _ in range(29):
            left, right = ("->", left, 1), ("->", 1, right)
        self.assertEqual(shape_text(right), "b -> " * 29 + "a")
        self.assertEqual(shape_text(left), "(" * 28 + "a -> b" + ") -> b" * 28)
        for shape in (left, right, boxes(29), boxes(29, INT), broad(200)):
            self.assertEqual(parse_shape(shape_text(shape)), shape)

    def test_random_shapes(self):
        source = random.Random(1)
        for _ in range(300):
            self.exact(shape_text, parse_shape, random_shape(source, 3))


class Patterns(Asked):
    def test_forms(self):
        self.texts(pattern_text, parse_pattern, {
            "_": ANY, "x": X, "Nil": NIL, "Cons _ x": ("make", "Cons", ANY, X), "Box Nil": ("make", "Box", NIL),
            "Cons (Box x) (Cons Nil _)": ("make", "Cons", PART, ("make", "Cons", NIL, ANY)),
            "T (T _ _ _) x Nil": ("make", "T", ("make", "T", ANY, ANY, ANY), X, NIL),
        })

    def test_random_patterns(self):
        source = random.Random(2)
        for _ in range(200):
            self.exact(pattern_text, parse_pattern, random_pattern(source, 3))


class Expressions(Asked):
    def test_example(self):
        value = ("call", ("make", "Nil"), ("op", "-", ("number", 1), ("op", "-", ("word", "x"), ("number", 2))))
        self.assertEqual(expression_text(value), "(Nil) (1 - (x - 2))")

    def test_atoms_and_calls(self):
        self.texts(expression_text, parse_expression, {
            "0": ("number", 0), "999999": ("number", 999999), "x": X, "hole": HOLE, "Nil": NIL, "Box x": PART,
            "Cons 1 (Box x)": ("make", "Cons", ONE, PART), "Cons (f x) Nil": ("make", "Cons", ("call", F, X), NIL),
            "f x": ("call", F, X), "f x y": ("call", ("call", F, X), Y), "f (x y)": ("call", F, ("call", X, Y)),
            "(Nil) x": ("call", NIL, X), "(Nil) x y": ("call", ("call", NIL, X), Y), "f Nil": ("call", F, NIL),
            "(Box x) y": ("call", PART, Y), "f (Box x)": ("call", F, PART), "(Nil) Nil": ("call", NIL, NIL),
            "Box ((Nil) x)": ("make", "Box", ("call", NIL, X)), "1 x": ("call", ONE, X), "hole hole": ("call", HOLE, HOLE),
            "f ((Nil) x)": ("call", F, ("call", NIL, X)), "(Cons x y) Nil": ("call", ("make", "Cons", X, Y), NIL),
        })

    def test_operators(self):
        def op(sign, left, right):
            return ("op", sign, left, right)

        self.texts(expression_text, parse_expression, {
            "x + y": op("+", X, Y), "x - y - 1": op("-", op("-", X, Y), ONE), "x - (y - 1)": op("-", X, op("-", Y, ONE)),
            "x + (y + 1)": op("+", X, op("+", Y, ONE)), "x * y * 1": op("*", op("*", X, Y), ONE),
            "x * (y * 1)": op("*", X, op("*", Y, ONE)), "x + y * 1": op("+", X, op("*", Y, ONE)),
            "(x + y) * 1": op("*", op("+", X, Y), ONE), "x * (y - 1)": op("*", X, op("-", Y, ONE)),
            "x + 1 < y * 1": op("<", op("+", X, ONE), op("*", Y, ONE)), "(x < y) = (y < x)": op("=", op("<", X, Y), op("<", Y, X)),
            "(x = y) + 1": op("+", op("=", X, Y), ONE), "1 - (x < y)": op("-", ONE, op("<", X, Y)),
            "f x * f y": op("*", ("call", F, X), ("call", F, Y)), "f (x * y)": ("call", F, op("*", X, Y)),
            "(x + y) 1": ("call", op("+", X, Y), ONE), "Box x + Nil": op("+", PART, NIL), "x + y - 1": op("-", op("+", X, Y), ONE),
            "x + 1 = y - 1": op("=", op("+", X, ONE), op("-", Y, ONE)), "x * 1 = y * 1": op("=", op("*", X, ONE), op("*", Y, ONE)),
            "x - 1 < y + 1": op("<", op("-", X, ONE), op("+", Y, ONE)), "(x - y) * (y + 1)": op("*", op("-", X, Y), op("+", Y, ONE)),
            "x * y - 1 * y": op("-", op("*", X, Y), op("*", ONE, Y)), "x * y + 1 * y": op("+", op("*", X, Y), op("*", ONE, Y)),
            "Box (x = 1)": ("make", "Box", op("=", X, ONE)),
        })

    def test_fun_let_and_match_in_all_places(self):
        fun, let, case = ("fun", "x", X), ("let", "x", ONE, X), ("match", X, ((ANY, ONE),))
        texts = {fun: "(fun x -> x)", let: "(let x = 1 in x)", case: "match x with | _ -> 1 end"}
        for one, text in texts.items():
            bare = text.strip("()")
            self.texts(expression_text, parse_expression, {
                bare: one, f"fun y -> {bare}": ("fun", "y", one), f"let y = {bare} in {bare}": ("let", "y", one, one),
                f"match {bare} with | y -> {bare} | _ -> {bare} end": ("match", one, ((Y, one), (ANY, one))),
                f"{text} {text}": ("call", one, one), f"Cons {text} 1": ("make", "Cons", one, ONE),
                f"{text} + {text}": ("op", "+", one, one), f"{text} * {text}": ("op", "*", one, one),
                f"{text} < {text}": ("op", "<", one, one), f"f {text} y": ("call", ("call", F, one), Y),
            })

    def test_matches(self):
        pattern = ("make", "Cons", ("make", "Box", X), ANY)
        self.texts(expression_text, parse_expression, {
            "match x with end": ("match", X, ()),
            "match f x with | Nil -> 1 | Cons (Box x) _ -> f x end": ("match", ("call", F, X), ((NIL, ONE), (pattern, ("call", F, X)))),
            "match x = 1 with | x -> x < 1 end": ("match", ("op", "=", X, ONE), ((X, ("op", "<", X, ONE)),)),
            "match match x with end with end": ("match", ("match", X, ()), ()),
        })

    def test_long_chains(self):
        for form in (lambda one, other: ("call", one, other), lambda one, other: ("op", "-", one, other),
                     lambda one, other: ("op", "*", one, other), lambda one, other: ("op", "<", one, other)):
            left = right = X
            for _ in range(19):
                left, right = form(left, Y), form(Y, right)
            for value in (left, right):
                self.assertEqual(parse_expression(expression_text(value)), value)
        chain = X
        for _ in range(19):
            chain = ("call", chain, Y)
        self.assertEqual(expression_text(chain), "x" + " y" * 19)

    def test_random_expressions(self):
        source = random.Random(3)
        for _ in range(1500):
            self.exact(expression_text, parse_expression, random_expression(source, 3))


class Data(Asked):
    def test_forms(self):
        self.texts(data_text, parse_data, {
            "data Void": ("Void", 0, ()), "data Box a": ("Box", 1, ()), "data Pair a b": ("Pair", 2, ()),
            "data U is U1": ("U", 0, (("U1",),)), "data List a is Nil, Cons a (List a)": LIST,
            "data P a b is P1 a b (a -> b), P2, P3 Int, P4 (P a b)":
                ("P", 2, (("P1", 0, 1, ("->", 0, 1)), ("P2",), ("P3", INT), ("P4", ("P", 0, 1)))),
        })


class Definitions(Asked):
    def test_forms(self):
        self.texts(definition_text, parse_definition, {
            "x is 1": ("x", None, ONE), "f as a -> List a is fun x -> x": ("f", ("->", 0, ("List", 0)), ("fun", "x", X)),
            "x as Int is match x with end": ("x", INT, ("match", X, ())), "x as a is f x": ("x", 0, ("call", F, X)),
        })


class Books(Asked):
    def test_example(self):
        self.assertEqual(book_text(((("Void", 0, ()),), ())), "data Void;\n")

    def test_forms(self):
        self.texts(book_text, parse_book, {
            "": ((), ()), "x is 1;\n": ((), (("x", None, ONE),)), "data U;\ndata List a is Nil, Cons a (List a);\n":
            ((("U", 0, ()), LIST), ()),
            "data U is A, B;\nx as Int is 1;\ny is f (Box x);\n":
                ((("U", 0, (("A",), ("B",))),), (("x", INT, ONE), ("y", None, ("call", F, PART)))),
        })


if __name__ == "__main__":
    unittest.main()
