"""Texts that are only beginnings, have one part too many, or are read but too large."""

import unittest

from samples import Raises, boxes, broad
from shapelang.errors import BadText, TooLarge
from shapelang.readers import parse_book, parse_data, parse_definition, parse_expression, parse_pattern, parse_shape

NODES = {"limit": 200}
PLACES = {"limit": 60}


def text_of(shape):
    """A text of a shape with Names and the variable a, in brackets wherever they may stand."""
    if not isinstance(shape, tuple):
        return "a"
    return shape[0] + "".join(f" ({text_of(part)})" for part in shape[1:])


def sums(places):
    """An expression of 2 * k + 1 places, with few levels."""
    if places == 1:
        return "1"
    left = (places - 1) // 2
    left -= 1 - left % 2
    return f"({sums(left)} + {sums(places - 1 - left)})"


def trees(places):
    """A pattern of just so many places, with few levels."""
    if places == 1:
        return "_"
    parts = min(3, places - 1)
    left = places - 1
    sizes = [left // parts + (1 if part < left % parts else 0) for part in range(parts)]
    return "T" + "".join(f" ({trees(size)})" for size in sizes)


def count_tokens(text):
    """How many tokens a text of Names, variables and brackets has."""
    return len(text.replace("(", " ( ").replace(")", " ) ").split())


class Beginnings(Raises, unittest.TestCase):
    def bad(self, read, text, index):
        self.refused(BadText, {"index": index}, read, text)

    def test_the_empty_text(self):
        for read in (parse_shape, parse_pattern, parse_expression, parse_data, parse_definition):
            self.bad(read, "", 0)
        self.assertEqual(parse_book(""), ((), ()))

    def test_many_open_brackets(self):
        for many in (1, 100, 1000, 1990, 2000):
            self.bad(parse_shape, "(" * many, many)
            self.bad(parse_pattern, "(" * many, many)
            self.bad(parse_expression, "(" * many, many)
        self.bad(parse_shape, "List(" * 390, 780)
        self.bad(parse_pattern, "Cons(" * 390, 780)
        self.bad(parse_expression, "f(" * 990, 1980)
        self.bad(parse_definition, "x is " + "(" * 1990, 1992)
        self.bad(parse_definition, "x as " + "(" * 1990, 1992)
        self.bad(parse_data, "data U is A " + "(" * 1980, 1984)
        self.bad(parse_book, "data U is A " + "(" * 1980, 1984)
        self.bad(parse_book, "x is " + "(" * 1990, 1992)

    def test_other_deep_beginnings(self):
        self.bad(parse_expression, "fun x->" * 280, 840)
        self.bad(parse_expression, "let x=" * 330, 990)
        self.bad(parse_expression, "match " * 330, 330)
        self.bad(parse_expression, "match x with|_->" * 120, 720)
        self.bad(parse_shape, "a->" * 660, 1320)
        self.bad(parse_expression, "1+" * 990, 1980)
        self.bad(parse_expression, "(" * 900 + "x" + ")" * 899, 1800)
        self.bad(parse_expression, "(" * 900 + "x" + ")" * 901, 1801)
        self.bad(parse_expression, "(" * 900 + ")", 900)

    def test_one_too_many(self):
        self.bad(parse_shape, "T a a a a", 4)
        self.bad(parse_shape, "T a a a (a", 4)
        self.bad(parse_expression, "T 1 1 1 1", 4)
        self.bad(parse_expression, "T 1 1 1 match", 4)
        self.bad(parse_pattern, "T x x x _", 4)
        self.bad(parse_data, "data U is T a a a a", 7)
        self.bad(parse_data, "data U is A, B, C, D, E", 10)
        self.bad(parse_book, "".join(f"data U{k};" for k in range(7)), 18)
        self.bad(parse_book, "".join(f"x{k} is 1;" for k in range(9)), 32)

    def test_rows(self):
        rows = "| _ -> 1 " * 8
        self.assertEqual(len(parse_expression(f"match x with {rows} end")[2]), 8)
        self.bad(parse_expression, f"match x with {rows} | _ -> 1 end", 35)
        self.bad(parse_expression, f"match x with {rows} |", 35)
        self.bad(parse_expression, f"match x with {rows}", 35)

    def test_bad_texts_come_ahead_of_sizes(self):
        deep = "(" * 10 + "1" + "+1)" * 10
        self.bad(parse_expression, f"{' + '.join(['1'] * 100)} )", 199)
        self.bad(parse_expression, f"{deep} {deep} {deep} {deep} )", 4 * 41)
        self.bad(parse_shape, f"{text_of(boxes(40))} )", 1 + 3 * 40)


class Shapes(Raises, unittest.TestCase):
    def test_nodes(self):
        for nodes in (199, 200):
            self.assertEqual(parse_shape(text_of(broad(nodes))), broad(nodes))
        self.refused(TooLarge, NODES, parse_shape, text_of(broad(201)))
        self.refused(TooLarge, NODES, parse_shape, text_of(broad(250)))

    def test_levels(self):
        for levels in (29, 30):
            self.assertEqual(parse_shape(text_of(boxes(levels - 1))), boxes(levels - 1))
        self.refused(TooLarge, NODES, parse_shape, text_of(boxes(30)))
        self.refused(TooLarge, NODES, parse_shape, "a->" * 600 + "a")
        self.refused(TooLarge, NODES, parse_shape, "A(" * 500 + "a" + ")" * 500)
        self.assertEqual(parse_shape("a->" * 29 + "a")[0], "->")
        self.refused(TooLarge, NODES, parse_shape, "a->" * 30 + "a")

    def test_brackets_do_not_count(self):
        self.assertEqual(parse_shape("(" * 990 + "a" + ")" * 990), 0)
        self.assertEqual(parse_shape("(" * 400 + text_of(boxes(29)) + ")" * 400), boxes(29))

    def test_within_data(self):
        shape = text_of(broad(200))
        parts = parse_data(f"data U is A ({shape}) ({shape}), B ({shape})")[2]
        self.assertEqual(parts, (("A", broad(200), broad(200)), ("B", broad(200))))
        self.refused(TooLarge, NODES, parse_data, f"data U is A ({shape}), B a ({text_of(broad(201))})")
        self.assertEqual(parse_data(f"data U is A ({text_of(boxes(29))})")[2], (("A", boxes(29)),))
        self.refused(TooLarge, NODES, parse_data, f"data U is A ({text_of(boxes(30))})")

    def test_within_definitions_and_books(self):
        right, wrong = text_of(boxes(29)), text_of(boxes(30))
        self.assertEqual(parse_definition(f"x as {right} is 1")[1], boxes(29))
        self.refused(TooLarge, NODES, parse_definition, f"x as {wrong} is 1")
        self.assertEqual(parse_book(f"data U is A ({right}); x as {right} is 1;")[1][0][1], boxes(29))
        self.refused(TooLarge, NODES, parse_book, f"data U is A ({wrong}); x as {right} is 1;")
        self.refused(TooLarge, NODES, parse_book, f"data U is A ({right}); x as {wrong} is 1;")
        self.refused(TooLarge, NODES, parse_book, f"x as {right} is 1; y as {text_of(broad(201))} is 1;")


class Places(Raises, unittest.TestCase):
    def test_expressions_of_many_places(self):
        parse_expression(sums(59))
        self.assertEqual(parse_expression(f"f ({sums(29)}) ({sums(27)})")[0], "call")
        self.refused(TooLarge, PLACES, parse_expression, f"f ({sums(29)}) ({sums(29)})")
        parse_expression(f"fun x -> {sums(59)}")
        parse_expression(f"let x = {sums(31)} in {sums(27)}")
        self.refused(TooLarge, PLACES, parse_expression, f"let x = {sums(31)} in {sums(29)}")
        self.refused(TooLarge, PLACES, parse_expression, f"let x = {sums(59)} in 1")
        parse_expression(f"match {sums(29)} with | _ -> {sums(29)} end")
        self.refused(TooLarge, PLACES, parse_expression, f"match {sums(29)} with | _ -> {sums(31)} end")
        self.refused(TooLarge, PLACES, parse_expression, sums(61))
        self.refused(TooLarge, PLACES, parse_expression, "1" + "+1" * 900)
        self.refused(TooLarge, PLACES, parse_expression, f"fun y -> fun x -> {sums(59)}")

    def test_patterns_count_as_places(self):
        self.assertEqual(parse_pattern(trees(60))[0], "make")
        self.refused(TooLarge, PLACES, parse_pattern, trees(61))
        parse_expression(f"match x with | {trees(57)} -> 1 end")
        self.refused(TooLarge, PLACES, parse_expression, f"match x with | {trees(58)} -> 1 end")
        rows = f"| {trees(14)} -> 1 " * 3
        parse_expression(f"match x with {rows} | {trees(12)} -> 1 end")
        self.refused(TooLarge, PLACES, parse_expression, f"match x with {rows} | {trees(13)} -> 1 end")

    def test_levels_of_expressions(self):
        for front in ("fun x -> ", "let x = 1 in "):
            parse_expression(front * 19 + "1")
            self.refused(TooLarge, PLACES, parse_expression, front * 20 + "1")
        parse_expression("1" + "+1" * 19)
        self.refused(TooLarge, PLACES, parse_expression, "1" + "+1" * 20)
        parse_expression("f" + " x" * 19)
        self.refused(TooLarge, PLACES, parse_expression, "f" + " x" * 20)
        parse_expression("A(" * 19 + "1" + ")" * 19)
        self.refused(TooLarge, PLACES, parse_expression, "A(" * 20 + "1" + ")" * 20)
        parse_expression("match " * 19 + "1" + " with end" * 19)
        self.refused(TooLarge, PLACES, parse_expression, "match " * 20 + "1" + " with end" * 20)
        parse_expression("match x with | _ -> " * 19 + "1" + " end" * 19)
        self.refused(TooLarge, PLACES, parse_expression, "match x with | _ -> " * 20 + "1" + " end" * 20)

    def test_levels_of_patterns(self):
        parse_pattern("A(" * 19 + "_" + ")" * 19)
        self.refused(TooLarge, PLACES, parse_pattern, "A(" * 20 + "_" + ")" * 20)
        deep = "A(" * 18 + "_" + ")" * 18
        parse_expression(f"match x with | {deep} -> 1 end")
        self.refused(TooLarge, PLACES, parse_expression, f"match x with | A ({deep}) -> 1 end")
        self.refused(TooLarge, PLACES, parse_expression, f"fun x -> match x with | {deep} -> 1 end")

    def test_brackets_do_not_count(self):
        self.assertEqual(parse_expression("(" * 990 + "x" + ")" * 990), ("word", "x"))
        self.assertEqual(parse_pattern("(" * 990 + "x" + ")" * 990), ("word", "x"))
        parse_expression("(" * 500 + "fun x -> " * 19 + "1" + ")" * 500)

    def test_within_definitions_and_books(self):
        right, wrong = "fun x -> " * 19 + "1", "fun x -> " * 20 + "1"
        parse_definition(f"x is {right}")
        self.refused(TooLarge, PLACES, parse_definition, f"x is {wrong}")
        self.refused(TooLarge, PLACES, parse_definition, f"x as a is {sums(61)}")
        parse_book(f"x is {right}; y is {sums(59)}; z is {right};")
        self.refused(TooLarge, PLACES, parse_book, f"x is {right}; y is {wrong};")
        self.refused(TooLarge, PLACES, parse_book, f"x is {sums(61)}; y is {right};")

    def test_shapes_come_first(self):
        shape, wrong = text_of(broad(201)), sums(61)
        self.refused(TooLarge, NODES, parse_definition, f"x as {shape} is {wrong}")
        self.refused(TooLarge, NODES, parse_book, f"x is {wrong}; y as {shape} is 1;")
        self.refused(TooLarge, NODES, parse_book, f"data U is A ({shape}); x is {wrong};")
        self.refused(BadText, {"index": 3 + count_tokens(shape)}, parse_definition, f"x as {shape} is )")


if __name__ == "__main__":
    unittest.main()
