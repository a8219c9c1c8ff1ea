import unittest

from samples import INT, ODD_VALUES, Raises
from shapelang.errors import BadText
from shapelang.readers import parse_book, parse_data, parse_definition, parse_expression, parse_pattern, parse_shape

READERS = (parse_shape, parse_pattern, parse_expression, parse_data, parse_definition, parse_book)
KEYWORDS = ("fun", "let", "in", "match", "with", "end", "as", "data", "is", "hole")
NIL = ("make", "Nil")


def word(text):
    return ("word", text)


def number(value):
    return ("number", value)


def op(sign, left, right):
    return ("op", sign, left, right)


class Asked(Raises, unittest.TestCase):
    def bad(self, read, text, index):
        error = self.refused(BadText, {"index": index}, read, text)
        self.assertIs(type(error.index), type(index))

    def reads(self, read, table):
        for text, value in table.items():
            self.assertEqual(read(text), value, text)


class Shapes(Asked):
    def test_example(self):
        self.assertEqual(parse_shape("(a -> Int) -> List b"), ("->", ("->", 0, INT), ("List", 1)))

    def test_forms(self):
        self.reads(parse_shape, {
            "a": 0, "Int": INT, "List a": ("List", 0), "Pair a b": ("Pair", 0, 1), "T a Int (List b)":
            ("T", 0, INT, ("List", 1)), "a -> b -> c": ("->", 0, ("->", 1, 2)),
            "(a -> b) -> c": ("->", ("->", 0, 1), 2), "List A -> B c -> d": ("->", ("List", ("A",)), ("->", ("B", 2), 3)),
            "List (a -> b)": ("List", ("->", 0, 1)), "T A B C": ("T", ("A",), ("B",), ("C",)),
        })

    def test_more_brackets(self):
        self.reads(parse_shape, {
            "(a)": 0, "((Int))": INT, "(List (a))": ("List", 0), "((a) -> ((b) -> (c)))": ("->", 0, ("->", 1, 2)),
            "List (Int)": ("List", INT), "((List a) -> (b))": ("->", ("List", 0), 1),
        })

    def test_variables(self):
        self.reads(parse_shape, {"z": 25, "a1": 26, "z1": 51, "b7": 183, "r7": 199, "k3": 88})
        for text in ("s7", "z7", "a8", "a0", "a01", "a00", "ab", "a1b", "a10", "len", "aa", "a1000000", "z99"):
            self.bad(parse_shape, text, 0)
            self.bad(parse_shape, f"List Int {text}", 2)

    def test_wrong_texts(self):
        for text, index in [("", 0), ("a b", 1), ("a Int", 1), ("(a) b", 3), ("->", 0), ("a ->", 2), ("a -> -> b", 2),
                            ("List a b c d", 4), ("List (a", 3), ("List ()", 2), (")", 0), ("a)", 1), ("7", 0),
                            ("int", 0), ("_", 0), ("a -> (b -> c", 6), ("List a, b", 2), ("a - > b", 1), ("a => b", 1)]:
            self.bad(parse_shape, text, index)


class Patterns(Asked):
    def test_forms(self):
        self.reads(parse_pattern, {
            "_": ("any",), "x": word("x"), "Nil": NIL, "Cons _ y": ("make", "Cons", ("any",), word("y")),
            "T A (B _) (C x Nil y)": ("make", "T", ("make", "A"), ("make", "B", ("any",)),
                                      ("make", "C", word("x"), NIL, word("y"))),
            "a": word("a"), "Cons x x": ("make", "Cons", word("x"), word("x")),
        })

    def test_more_brackets(self):
        self.reads(parse_pattern, {
            "(_)": ("any",), "((x))": word("x"), "(Nil)": NIL, "Cons (_) (y)": ("make", "Cons", ("any",), word("y")),
            "(Cons (Nil) x)": ("make", "Cons", NIL, word("x")),
        })

    def test_wrong_texts(self):
        for text, index in [("", 0), ("x y", 1), ("_ _", 1), ("7", 0), ("Cons 7", 1), ("A b c d e", 4), ("(Nil) x", 3),
                            ("Cons (", 2), ("hole", 0), ("Cons (x", 3), ("fun", 0), ("(A b c d) e", 6), ("_x", 1)]:
            self.bad(parse_pattern, text, index)


class Expressions(Asked):
    def test_examples(self):
        self.assertEqual(parse_expression("f (x - 1 - 2)"),
                         ("call", word("f"), op("-", op("-", word("x"), number(1)), number(2))))
        self.bad(parse_expression, "f (1 < 2 < 3)", 5)

    def test_forms(self):
        self.reads(parse_expression, {
            "0": number(0), "x": word("x"), "hole": ("hole",), "Nil": NIL,
            "Cons 1 x": ("make", "Cons", number(1), word("x")), "T A b hole": ("make", "T", ("make", "A"), word("b"), ("hole",)),
            "fun x -> x": ("fun", "x", word("x")), "f x": ("call", word("f"), word("x")),
            "let x = 1 in x": ("let", "x", number(1), word("x")), "1 + 2": op("+", number(1), number(2)),
            "1 - 2": op("-", number(1), number(2)), "1 * 2": op("*", number(1), number(2)),
            "1 < 2": op("<", number(1), number(2)), "1 = 2": op("=", number(1), number(2)),
            "match x with end": ("match", word("x"), ()),
            "match x with | Nil -> 1 | _ -> y end": ("match", word("x"), ((NIL, number(1)), (("any",), word("y")))),
        })

    def test_calls_and_makes(self):
        f, x, y, z = word("f"), word("x"), word("y"), word("z")
        self.reads(parse_expression, {
            "f x y z": ("call", ("call", ("call", f, x), y), z), "f (x y) z": ("call", ("call", f, ("call", x, y)), z),
            "(Nil) x": ("call", NIL, x), "Nil x": ("make", "Nil", x), "f Nil x": ("call", ("call", f, NIL), x),
            "(Cons x) y": ("call", ("make", "Cons", x), y), "f (Nil x)": ("call", f, ("make", "Nil", x)),
            "Cons (Cons x y) Nil": ("make", "Cons", ("make", "Cons", x, y), NIL), "7 x": ("call", number(7), x),
            "(fun x -> x) y": ("call", ("fun", "x", x), y), "hole x": ("call", ("hole",), x),
            "match x with end y": ("call", ("match", x, ()), y), "f f f f f f": self.chain(f, 5),
        })

    def chain(self, part, many):
        whole = part
        for _ in range(many):
            whole = ("call", whole, part)
        return whole

    def test_order_of_the_operators(self):
        a, b, c, d = word("a"), word("b"), word("c"), word("d")
        self.reads(parse_expression, {
            "a - b - c": op("-", op("-", a, b), c), "a - b + c": op("+", op("-", a, b), c),
            "a * b * c": op("*", op("*", a, b), c), "a + b * c": op("+", a, op("*", b, c)),
            "a * b + c": op("+", op("*", a, b), c), "a + b * c - d": op("-", op("+", a, op("*", b, c)), d),
            "a + b < c * d": op("<", op("+", a, b), op("*", c, d)), "a = b - c": op("=", a, op("-", b, c)),
            "(a < b) = (c < d)": op("=", op("<", a, b), op("<", c, d)), "a * f b": op("*", a, ("call", word("f"), b)),
            "Nil a + b": op("+", ("make", "Nil", a), b), "a - (b - c)": op("-", a, op("-", b, c)),
            "fun a -> b + c": ("fun", "a", op("+", b, c)), "let a = b = c in d < a": ("let", "a", op("=", b, c), op("<", d, a)),
            "fun a -> fun b -> c d": ("fun", "a", ("fun", "b", ("call", c, d))),
            "let a = let b = c in d in a": ("let", "a", ("let", "b", c, d), a),
        })

    def test_matches_within(self):
        x = word("x")
        inner = ("match", x, ((("any",), number(1)),))
        self.reads(parse_expression, {
            "match match x with | _ -> 1 end with | _ -> 1 end": ("match", inner, ((("any",), number(1)),)),
            "match x with | y -> match x with | _ -> 1 end | _ -> fun y -> x end":
                ("match", x, ((word("y"), inner), (("any",), ("fun", "y", x)))),
            "1 + match x with | _ -> 1 end * 2": op("+", number(1), op("*", inner, number(2))),
            "match 1 < 2 with | True -> let x = 1 in x end":
                ("match", op("<", number(1), number(2)), ((("make", "True"), ("let", "x", number(1), x)),)),
        })

    def test_more_brackets(self):
        for text, same in [("((x))", "x"), ("(f) (x)", "f x"), ("((f x) y)", "f x y"), ("(1 + 2) + 3", "1 + 2 + 3"),
                           ("1 + (2 * (3))", "1 + 2 * 3"), ("fun x -> (x)", "fun x -> x"), ("Cons (Nil) (x)", "Cons Nil x"),
                           ("let x = (1 < 2) in (fun y -> y)", "let x = 1 < 2 in fun y -> y"),
                           ("match (x) with | (Cons (_) y) -> (1) end", "match x with | Cons _ y -> 1 end")]:
            self.assertEqual(parse_expression(text), parse_expression(same), text)

    def test_wrong_texts(self):
        for text, index in [("", 0), ("+", 0), ("1 +", 2), ("1 + + 2", 2), ("1 + fun x -> x", 2), ("f fun x -> x", 1),
                            ("f let x = 1 in x", 1), ("fun", 1), ("fun X -> 1", 1), ("fun x = 1", 2), ("fun x y -> 1", 2),
                            ("let x 1", 2), ("let x = 1", 4), ("let x = 1 x", 5), ("(1", 2), ("1)", 1), ("()", 1),
                            ("1 = 2 = 3", 3), ("1 < 2 = 3", 3), ("Cons 1 2 3 4", 4), ("match x", 2), ("match with", 1),
                            ("match x with | 1 -> 2 end", 4), ("match x with 1", 3), ("match x with | Nil 1", 5),
                            ("match x with | Nil -> | ", 6), ("match x with | x -> 1 -> 2", 7), ("x _", 1), ("_", 0),
                            ("x , y", 1), ("1 -> 2", 1), ("x y)", 2), ("in", 0), ("a ; b", 1), ("1 - - 2", 2),
                            ("match x with | Nil -> 0", 7), ("match x end", 2), ("Nil Nil Nil Nil Nil", 4)]:
            self.bad(parse_expression, text, index)


class Data(Asked):
    def test_forms(self):
        self.reads(parse_data, {
            "data Void": ("Void", 0, ()), "data Box a": ("Box", 1, ()), "data Pair a b": ("Pair", 2, ()),
            "data U is U1": ("U", 0, (("U1",),)), "data B is F, T": ("B", 0, (("F",), ("T",))),
            "data List a is Nil, Cons a (List a)": ("List", 1, (("Nil",), ("Cons", 0, ("List", 0)))),
            "data P a b is P1 a b (a -> b), P2, P3 Int, P4 (P a b)":
                ("P", 2, (("P1", 0, 1, ("->", 0, 1)), ("P2",), ("P3", INT), ("P4", ("P", 0, 1)))),
            "data U is U1 c (r7)": ("U", 0, (("U1", 2, 199),)), "data Void is Void": ("Void", 0, (("Void",),)),
        })

    def test_wrong_texts(self):
        for text, index in [("", 0), ("data", 1), ("data void", 1), ("data U b", 2), ("data U a a", 3), ("data U a b c", 4),
                            ("data U is", 3), ("data U is a", 3), ("data U is A,", 5), ("data U is A B", None),
                            ("data U is A a b c d", 7), ("data U is A, B, C, D, E", 10), ("data U;", 2), ("U", 0),
                            ("data U is A a -> b", 5), ("data U a b is", 5), ("data U is A; B", 4), ("data U a b b", 4), ("data U is A is B", 4), ("data U a a", 3), ("data U is A (a -> b", 8)]:
            if index is None:
                self.assertEqual(parse_data(text), ("U", 0, (("A", ("B",)),)))
            else:
                self.bad(parse_data, text, index)


class Definitions(Asked):
    def test_forms(self):
        self.reads(parse_definition, {
            "x is 7": ("x", None, number(7)), "id as a -> a is fun x -> x": ("id", ("->", 0, 0), ("fun", "x", word("x"))),
            "l as List Int is Nil": ("l", ("List", INT), NIL), "a as a is a": ("a", 0, word("a")),
        })

    def test_wrong_texts(self):
        for text, index in [("", 0), ("x", 1), ("x is", 2), ("X is 1", 0), ("x as is 1", 2), ("x as a", 3), ("x as a = 1", 3),
                            ("x = 1", 1), ("x is 1;", 3), ("x is 1 is 2", 3), ("data is 1", 0), ("x as len is 1", 2), ("x as Int as Int is 1", 3)]:
            self.bad(parse_definition, text, index)


class Books(Asked):
    def test_forms(self):
        self.reads(parse_book, {
            "": ((), ()), "\n \n": ((), ()), "data U;": ((("U", 0, ()),), ()), "x is 1;": ((), (("x", None, number(1)),)),
            "data U; data V is V1; x is 1; y as Int is x;":
                ((("U", 0, ()), ("V", 0, (("V1",),))), (("x", None, number(1)), ("y", INT, word("x")))),
        })

    def test_how_many(self):
        six = "".join(f"data U{k};" for k in range(6))
        eight = "".join(f"x{k} is 1;" for k in range(8))
        datas, definitions = parse_book(six + eight)
        self.assertEqual((len(datas), len(definitions)), (6, 8))
        self.bad(parse_book, six + "data U6;", 18)
        self.bad(parse_book, six + eight + "x8 is 1;", 50)
        self.bad(parse_book, eight + "y", 32)

    def test_wrong_texts(self):
        for text, index in [("data U", 2), ("x is 1", 3), (";", 0), ("x is 1; data U;", 4), ("data U;;", 3), ("x is 1;;", 4),
                            ("data", 1), ("data U is A, B; x is", 9), ("1", 0)]:
            self.bad(parse_book, text, index)


class Tokens(Asked):
    def test_blanks_and_line_feeds(self):
        whole = parse_expression("fun x -> match x with | Cons _ y -> 1 + f y * 2 end")
        self.assertEqual(parse_expression("fun x->match x with|Cons _ y->1+f y*2 end"), whole)
        self.assertEqual(parse_expression("\n fun\nx\n->\n\nmatch  x with|Cons _\ny->1 +f\ny*2\nend \n\n"), whole)
        self.assertEqual(parse_expression("match(x)with|Cons(_)y->(1)end"), parse_expression("match x with | Cons _ y -> 1 end"))
        self.assertEqual(parse_shape("  a->b ->\nc"), ("->", 0, ("->", 1, 2)))
        self.assertEqual(parse_book("data U a is A,B;x is 1;"), parse_book("data U a is A, B;\nx is 1;\n"))
        for read in READERS[:-1]:
            self.bad(read, " \n \n", 0)

    def test_runs_are_as_long_as_possible(self):
        self.assertEqual(parse_expression("funx"), word("funx"))
        self.assertEqual(parse_expression("inx endy"), ("call", word("inx"), word("endy")))
        self.assertEqual(parse_expression("x-1"), op("-", word("x"), number(1)))
        self.assertEqual(parse_expression("1*2-3"), op("-", op("*", number(1), number(2)), number(3)))
        self.bad(parse_expression, "funx -> x", 1)
        self.bad(parse_expression, "letx = 1 in x", 3)
        self.bad(parse_expression, "x->y", 1)
        self.bad(parse_expression, "x- >y", 2)

    def test_numbers(self):
        for text, value in [("0", 0), ("9", 9), ("10", 10), ("999999", 999999), ("100000", 100000)]:
            self.assertEqual(parse_expression(text), number(value))
            self.assertIs(type(parse_expression(text)[1]), int)
        for text in ("1000000", "00", "01", "007", "000000", "0999999", "9999999", "1" * 300, "1x", "12ab", "0x1"):
            self.bad(parse_expression, text, 0)
            self.bad(parse_expression, f"f ({text})", 2)

    def test_words_and_names(self):
        for text in ("x", "abcdefgh", "a1234567", "len", "funny", "z9"):
            self.assertEqual(parse_expression(text), word(text))
            self.assertEqual(parse_pattern(text), word(text))
        for text in ("A", "Abcdefgh", "AZ09az", "Z1234567"):
            self.assertEqual(parse_expression(text), ("make", text))
            self.assertEqual(parse_shape(text), (text,))
        for text in ("abcdefghi", "a12345678", "Abcdefghi", "aB", "a1B", "9a", "1A", "x" * 1000):
            for read in READERS:
                self.bad(read, text, 0)

    def test_keywords_in_the_place_of_words(self):
        for text in KEYWORDS:
            self.bad(parse_pattern, text, 0)
            self.bad(parse_pattern, f"Cons x {text}", 2)
            self.bad(parse_shape, text, 0)
            self.bad(parse_definition, f"{text} is 1", 0)
            self.bad(parse_expression, f"fun {text} -> 1", 1)
            self.bad(parse_expression, f"let {text} = 1 in 1", 1)
            self.bad(parse_expression, f"match x with | {text} -> 1 end", 4)
            if text not in ("fun", "let", "match", "hole"):
                self.bad(parse_expression, text, 0)
                self.bad(parse_expression, f"1 + {text}", 2)

    def test_signs_that_are_no_tokens(self):
        for sign in "!\"#$&'./:>?@[\\]^`{}~":
            for read in READERS:
                self.bad(read, sign, 0)
            self.bad(parse_expression, f"x{sign}y", 1)
            self.bad(parse_shape, f"List{sign}", 1)
        self.bad(parse_expression, "x_y", 1)
        self.bad(parse_expression, "x \t y", 1)
        self.bad(parse_expression, "\u00e9", 0)
        self.bad(parse_expression, "x\u00b2", 1)

    def test_values_that_are_no_texts(self):
        for value in [*[value for value in ODD_VALUES if not isinstance(value, str)], b"x", 7, ("x",), ["x"]]:
            for read in READERS:
                self.bad(read, value, None)

    def test_the_same_text_again(self):
        text = "fun x -> Cons x (f 1)"
        self.assertEqual(parse_expression(text), parse_expression(text))


if __name__ == "__main__":
    unittest.main()
