import random
import unittest

from makes import (ANY, DATAS, HOLE, KNOWN, LISTS, NIL, NO, PAIR, SMALL_DATAS, VOID, YES, call, chain_datas, fun, funs,
                   make, number, op, random_expression, sums, word)
from samples import BOOL, INT, ODD_VALUES, Raises, boxes, broad
from shapelang.errors import NoPlace, TooLarge
from shapelang.programs import binder_of, count_places, datas_error, expression_error, part_at, replaced
from shapelang.readers import parse_data, parse_expression

PLACES = {"limit": 60}
BOX = ("Box", 1, (("Wrap", 0),))
# A function has no place; other values are no numbers of places, either.
NO_PLACES = (None, True, False, -1, "0", (0,), [0], [], {}, 10 ** 70, "x", ("word", "x"))


class Datas(unittest.TestCase):
    def bad(self, *datas):
        """The last one of these datas is the wrong one, with others behind it, too."""
        wrong = (len(datas) - 1, "data")
        self.assertEqual(datas_error(datas), wrong)
        self.assertEqual(datas_error((*datas, ("Zz", 0, ()))), wrong)
        self.assertEqual(datas_error((*datas, None)), wrong)
        self.assertEqual(datas_error((("Zz", 0, ()), *datas)), (len(datas), "data"))

    def one(self, *makers, many=1):
        return ("Own", many, makers)

    def test_datas(self):
        for datas in ((), DATAS, SMALL_DATAS, chain_datas(), (BOX,), (VOID, BOX, LISTS)):
            self.assertIsNone(datas_error(datas))
        for text in ("data A is B (A -> Int) Bool", "data A a b is B (A a b -> a) b, C, D, E (a -> b -> Int)",
                     "data A a is B (A a) (A a) (A a)", "data Abcdefg8 is Zbcdefg8 Int"):
            self.assertIsNone(datas_error((parse_data(text),)))
        self.assertIsNone(datas_error((BOX, ("Own", 2, (("M", ("Box", ("Own", 0, 1)), ("->", ("Box", 1), 0)),)))))

    def test_what_is_no_tuple_of_six(self):
        for value in (None, [], [BOX], "data", {}, 0, True, {"Box": 1}):
            self.assertEqual(datas_error(value), (None, "datas"))
        seven = tuple((f"N{at}", 0, ()) for at in range(7))
        self.assertIsNone(datas_error(seven[:6]))
        self.assertEqual(datas_error(seven), (None, "datas"))
        self.assertEqual(datas_error((None,) * 7), (None, "datas"))
        self.assertEqual(datas_error((None,)), (0, "data"))

    def test_forms(self):
        for value in [*ODD_VALUES, ["Own", 0, ()], ("Own", 0), ("Own", 0, (), ()), ("Own", 0, []), ("Own", 0, None),
                      ("Own", 0, (("M",), None)), ("Own", 0, (["M"],)), ("Own", 0, ((),)), ("Own", 0, ("M",))]:
            self.bad(value)

    def test_names(self):
        for name in ("own", "Own_", "", "Ownownown", 1, None, ("Own",), "1wn", "O n"):
            self.bad((name, 0, ()))
            self.bad(("Own", 0, ((name,),)))
        for name in ("Int", "Bool", "False", "True"):
            self.bad((name, 0, ()))
            self.bad(("Own", 0, (("M",), (name, INT))))

    def test_parameters(self):
        for many in (-1, 3, True, False, None, "1", (), 10 ** 60):
            self.bad(("Own", many, ()))
        for many in (0, 1, 2):
            self.assertIsNone(datas_error((("Own", many, ()),)))

    def test_makers(self):
        five = tuple((f"M{at}",) for at in range(5))
        self.assertIsNone(datas_error((self.one(*five[:4]),)))
        self.bad(self.one(*five))
        self.assertIsNone(datas_error((self.one(("M", 0, 0, 0)),)))
        self.bad(self.one(("M", 0, 0, 0, 0)))

    def test_variables(self):
        self.assertIsNone(datas_error((self.one(("M", ("->", 1, 0)), many=2),)))
        for many, shape in ((0, 0), (1, 1), (2, 2), (1, ("->", 0, 1)), (1, 199), (0, ("->", INT, 0)), (1, True)):
            self.bad(self.one(("M", shape), many=many))

    def test_shapes(self):
        for shape in (("Int", INT), ("Bool", 0), ("Other",), ("int",), ("List",), ("List", 0, 0), ("->", 0), (), None,
                      ["List", 0], ("Nil",), ("List", ("Lost",)), ("->", INT, ("List", ("List",))), ("True",)):
            self.bad(LISTS, self.one(("M", shape)))
        self.bad(self.one(("M", ("Later",))))
        self.assertEqual(datas_error((self.one(("M", ("Later",))), ("Later", 0, ()))), (0, "data"))
        self.assertIsNone(datas_error((("Later", 0, ()), self.one(("M", ("Later",))))))

    def test_itself(self):
        self.assertIsNone(datas_error((("Own", 2, (("M", ("Own", 0, 1), ("->", ("Own", 0, 1), 1)),)),)))
        for shape in (("Own", 1, 0), ("Own", 0, 0), ("Own", 0), ("Own", 0, INT), ("Own",), ("Own", 0, ("Own", 0, 1)),
                      ("->", INT, ("Own", 1, 0)), ("Box", ("Own", INT, 1)), ("Own", False, 1)):
            self.bad(BOX, ("Own", 2, (("M", shape),)))
        self.bad(("Own", 0, (("M", ("Own", 0)),)))
        self.assertIsNone(datas_error((("Own", 0, (("M", ("Own",)),)),)))

    def test_names_twice(self):
        for data in (("Own", 0, (("Own",),)), ("Own", 0, (("M",), ("M", INT))), ("Own", 0, (("A",), ("B",), ("A",))),
                     ("List", 0, ()), ("Nil", 0, ()), ("Own", 0, (("Cons",),)), ("Own", 0, (("List",),))):
            self.bad(LISTS, data)

    def test_sizes(self):
        lists = LISTS
        for shape, right in ((boxes(29), True), (boxes(30), False), (boxes(30, INT), False)):
            datas = (BOX, self.one(("M", shape)))
            self.assertEqual(datas_error(datas), None if right else (1, "data"))
        for nodes in (199, 200, 201):
            datas = (LISTS, self.one(("M", wide_shape(nodes))))
            self.assertEqual(datas_error(datas), None if nodes <= 200 else (1, "data"))


def wide_shape(nodes):
    """A shape of lists and functions with just so many nodes and few levels."""
    if nodes == 1:
        return 0
    if nodes == 2:
        return ("List", 0)
    left = (nodes - 1) // 2
    return ("->", wide_shape(left), wide_shape(nodes - 1 - left))


class Faults(unittest.TestCase):
    def error(self, expression):
        return expression_error(SMALL_DATAS, KNOWN, expression)

    def wrong(self, reason, expression):
        """The expression is wrong by itself; so is one with it in each place, and the first one wins."""
        self.assertEqual(self.error(expression), ((), reason))
        self.assertEqual(self.error(fun("x", expression)), ((0,), reason))
        for other, many in ((lambda one, two: op("+", one, two), 2), (lambda one, two: call(one, two), 2),
                            (lambda one, two: make("Cons", one, two), 2), (lambda one, two: ("let", "q", one, two), 2),
                            (lambda one, two: ("match", one, ((ANY, two),)), 3)):
            self.assertEqual(self.error(other(expression, number())), ((0,), reason))
            self.assertEqual(self.error(other(number(), expression)), ((many - 1,), reason))
            for second, word_of in ((word("lost"), "free"), (make("Lost"), "maker"), (None, "form")):
                self.assertEqual(self.error(other(expression, second)), ((0,), reason))
                self.assertEqual(self.error(other(second, expression)), ((0,), word_of))

    def test_expressions_that_fit(self):
        source = random.Random(21)
        for _ in range(300):
            expression = random_expression(source, source.randrange(5))
            if count_places(expression) <= 60:
                self.assertIsNone(expression_error(DATAS, KNOWN, expression))
        for text in ("id (pick one)", "match Nil with end", "fun x -> match x with | Cons x y -> x y | x -> x end",
                     "let x = 999999 in x = 0", "Cons (fun a -> hole) all", "fun id -> id", "1 * 2 < 3 - 4"):
            self.assertIsNone(self.error(parse_expression(text)))

    def test_forms(self):
        for value in (*ODD_VALUES, number(-1), number(1000000), number(True), number("1"), number(None), ("number",),
                      ("number", 1, 2), word("in"), word("X"), word(""), word("abcdefghi"), word(1), word(None), word(("x",)),
                      ("word",), ("word", "x", "x"), ("hole", 1), ["hole"], "hole", ("holes",), (["hole"],), ("any",),
                      ("make",), make("nil"), make(1), make(None), make(("Nil",)), make(["Nil"]), ("->", 0, 1),
                      ("fun", "x"), ("fun", "x", HOLE, HOLE), fun("X", HOLE), fun(0, HOLE), fun("let", HOLE),
                      ("call", HOLE), ("call", HOLE, HOLE, HOLE), ("call",), ("let", "x", HOLE), ("let", "x", HOLE, HOLE, HOLE),
                      ("let", "Y", HOLE, HOLE), ("let", None, HOLE, HOLE), ("op", "+", HOLE), ("op", "+", HOLE, HOLE, HOLE),
                      op("/", HOLE, HOLE), op("", HOLE, HOLE), op("+-", HOLE, HOLE), op(None, HOLE, HOLE),
                      op(["+"], HOLE, HOLE), ("match", HOLE), ("match", HOLE, (), ()), ("match", HOLE, []),
                      ("match", HOLE, None), ("match", HOLE, ((ANY, HOLE),) * 9), ("match", HOLE, (ANY,)),
                      ("match", HOLE, ((ANY, HOLE, HOLE),)), ("match", HOLE, ([ANY, HOLE],)), ("match", HOLE, (None,)),
                      ("match", HOLE, ((),)), ("match", HOLE, ((ANY, HOLE), (ANY,)))):
            self.wrong("form", value)
        self.assertIsNone(self.error(("match", HOLE, ((ANY, HOLE),) * 8)))
        self.assertIsNone(self.error(number(999999)))

    def test_makers(self):
        for value in (make("Lost"), make("List"), make("Nil", HOLE), make("Cons"), make("Cons", HOLE),
                      make("Cons", HOLE, HOLE, HOLE), make("True", HOLE), make("Int"), make("Void"), make("Lost", None)):
            self.wrong("maker", value)

    def test_free_words(self):
        for value in (word("lost"), word("two"), word("y"), word("a1")):
            self.wrong("free", value)
        for text, path in (("let x = x in x", (0,)), ("(fun x -> x) x", (1,)), ("fun x -> y", (0,)),
                           ("match x with | x -> x end", (0,)), ("match 1 with | x -> 1 | y -> x end", (4,)),
                           ("match 1 with | Cons x y -> z end", (2,)), ("(let x = 1 in x) + x", (1,)),
                           ("match 1 with | x -> y | y -> y end", (2,)), ("1 + (fun a -> 2 * (a - b))", (1, 0, 1, 1))):
            self.assertEqual(self.error(parse_expression(text)), (path, "free"))
        self.assertEqual(expression_error((), (("x", INT),), word("y")), ((), "free"))
        self.assertIsNone(expression_error((), (("x", INT),), word("x")))

    def test_patterns(self):
        def match(*patterns):
            return ("match", HOLE, tuple((pattern, HOLE) for pattern in patterns))

        for value in (*ODD_VALUES, HOLE, number(1), fun("x", HOLE), ("any", 1), ("any", ANY), ["any"], "any", word("end"),
                      word("A"), ("word",), ("word", "x", "y"), ("make",), make("cons"), make(None), call(ANY, ANY)):
            self.assertEqual(self.error(match(ANY, value)), ((3,), "form"))
            self.assertEqual(self.error(match(ANY, make("Cons", word("x"), value))), ((3, 1), "form"))
            self.assertEqual(self.error(match(make("Cons", value, word("lost")), value, None)), ((1, 0), "form"))
        for value in (make("Lost"), make("Nil", ANY), make("Cons", ANY), make("Cons", ANY, ANY, ANY), make("False", ANY)):
            self.assertEqual(self.error(match(ANY, value)), ((3,), "maker"))
            self.assertEqual(self.error(match(make("Cons", NIL, make("Cons", value, None)))), ((1, 1, 0), "maker"))
        for value, path in ((make("Both", word("x"), word("x")), (1,)),
                            (make("Both", make("Both", word("x"), word("y")), make("Both", word("z"), word("y"))), (1, 1)),
                            (make("Both", make("Both", word("x"), word("x")), word("x")), (0, 1))):
            self.assertEqual(self.error(match(value)), ((1, *path), "twice"))
            self.assertEqual(self.error(match(word("x"), value)), ((3, *path), "twice"))
        self.assertIsNone(self.error(match(make("Both", word("x"), word("y")), word("x"), word("y"))))

    def test_the_first_place_in_a_match(self):
        def error(matched, *rows):
            return self.error(("match", matched, rows))

        lost, bad = word("lost"), make("Lost")
        self.assertEqual(error(lost, (bad, None)), ((0,), "free"))
        self.assertEqual(error(HOLE, (bad, None)), ((1,), "maker"))
        self.assertEqual(error(HOLE, (word("x"), lost), (bad, None)), ((2,), "free"))
        self.assertEqual(error(HOLE, (word("x"), word("x")), (bad, None)), ((3,), "maker"))
        self.assertEqual(error(HOLE, (word("x"), word("x")), (NIL, None)), ((4,), "form"))
        self.assertEqual(error(HOLE, (NIL, NIL), (NIL, make("Cons", HOLE, ("match", HOLE, ((NIL, lost),))))),
                         ((4, 1, 2), "free"))
        self.assertEqual(error(HOLE, *[(word("x"), word("x"))] * 7, (ANY, word("x"))), ((16,), "free"))

    def test_sizes(self):
        for many in (1, 59, 61):
            self.assertEqual(count_places(sums(many)), many)
            self.assertEqual(self.error(sums(many)), None if many <= 60 else (None, "size"))
        self.assertIsNone(self.error(fun("x", sums(59))))
        self.assertEqual(self.error(fun("x", fun("x", sums(59)))), (None, "size"))
        self.assertEqual(self.error(op("+", sums(59), word("lost"))), ((1,), "free"))
        self.assertIsNone(self.error(funs(19)))
        self.assertEqual(self.error(funs(20)), (None, "size"))
        self.assertEqual(self.error(funs(20, word("lost"))), ((0,) * 20, "free"))
        self.assertEqual(self.error(funs(50, make("Lost"))), ((0,) * 50, "maker"))
        pattern = ANY
        for many in range(1, 22):
            pattern = make("Cons", ANY, pattern)
            error = None if many <= 18 else (None, "size")
            self.assertEqual(self.error(("match", HOLE, ((pattern, HOLE),))), error)

    def test_any_value_in_each_place(self):
        expression = parse_expression("fun x -> let y = x + 1 in match y with | Cons a b -> hole a | c -> Cons y Nil end")
        self.assertIsNone(self.error(expression))
        for place in range(count_places(expression)):
            path = path_to(expression, place)
            for value in ODD_VALUES:
                self.assertEqual(self.error(put(expression, path, value)), (path, "form"))


def parts(expression):
    """The parts of an expression or a pattern, written down once more."""
    if expression[0] == "match":
        return [expression[1], *[part for row in expression[2] for part in row]]
    return [item for item in expression[1:] if isinstance(item, tuple)]


def places(expression):
    """All places with their paths, in order."""
    return [((), expression), *[((at, *path), place) for at, part in enumerate(parts(expression))
                                for path, place in places(part)]]


def path_to(expression, place):
    return places(expression)[place][0]


def put(expression, path, value):
    """The expression with any value at the end of this path."""
    if not path:
        return value
    inner = put(parts(expression)[path[0]], path[1:], value)
    if expression[0] != "match":
        first = len(expression) - len(parts(expression)) + path[0]
        return (*expression[:first], inner, *expression[first + 1:])
    items = [expression[1], *[part for row in expression[2] for part in row]]
    items[path[0]] = inner
    return ("match", items[0], tuple(zip(items[1::2], items[2::2])))


class Places(Raises, unittest.TestCase):
    def samples(self, many=150):
        source = random.Random(22)
        found = [random_expression(source, source.randrange(1, 5)) for _ in range(many)]
        return [one for one in found if count_places(one) <= 60]

    def test_count_places_and_part_at(self):
        for text, many in (("1", 1), ("hole", 1), ("x", 1), ("Nil", 1), ("Cons 1 Nil", 3), ("fun x -> x", 2), ("f x", 3),
                           ("let x = 1 in x", 3), ("1 + 2", 3), ("match x with end", 2),
                           ("match x with | Cons a _ -> a | _ -> 1 end", 8)):
            self.assertEqual(count_places(parse_expression(text)), many)
        for expression in self.samples():
            listed = places(expression)
            self.assertEqual(count_places(expression), len(listed))
            self.assertEqual([part_at(expression, place) for place in range(len(listed))], [part for _, part in listed])

    def test_no_place(self):
        for expression in self.samples(10):
            for place in (*NO_PLACES, count_places(expression)):
                for function in (part_at, binder_of):
                    caught = self.refused(NoPlace, {"value": place}, function, expression, place)
                    self.assertIs(caught.value, place)
                self.refused(NoPlace, {"value": place}, replaced, expression, place, HOLE)
                self.refused(NoPlace, {"value": place}, replaced, expression, place, sums(61))

    def test_replaced(self):
        part = make("Cons", word("new"), HOLE)
        for expression in self.samples():
            for place, (path, old) in enumerate(places(expression)):
                if count_places(expression) - len(places(old)) <= 56 and len(path) <= 18:
                    self.assertEqual(replaced(expression, place, part), put(expression, path, part))
                self.assertEqual(replaced(expression, place, old), expression)

    def test_replaced_by_what_is_too_large(self):
        expression = ("match", HOLE, ((ANY, HOLE),))
        for place in (0, 1, 3):
            inside = 59 - (0 if place == 0 else 3)
            for many, right in ((inside - inside % 2 - 1, True), (61, False)):
                if right:
                    self.assertEqual(part_at(replaced(expression, place, sums(many)), place), sums(many))
                else:
                    self.refused(TooLarge, PLACES, replaced, expression, place, sums(many))
        pair = op("+", HOLE, HOLE)
        self.assertEqual(count_places(replaced(pair, 1, sums(57))), 59)
        self.assertEqual(count_places(replaced(fun("x", pair), 2, sums(57))), 60)
        self.refused(TooLarge, PLACES, replaced, fun("x", fun("x", pair)), 3, sums(57))
        self.assertEqual(replaced(funs(10), 10, funs(9)), funs(19))
        self.refused(TooLarge, PLACES, replaced, funs(10), 10, funs(10))
        self.assertEqual(replaced(funs(19), 5, funs(10)), funs(15))
        pattern = ANY
        for _ in range(18):
            pattern = make("Wrap", pattern)
        self.assertEqual(part_at(replaced(expression, 2, pattern), 2), pattern)
        self.refused(TooLarge, PLACES, replaced, expression, 2, make("Wrap", pattern))
        self.assertEqual(replaced(expression, 2, make("Both", word("x"), word("x")))[2][0][0][2:], (word("x"),) * 2)
        self.assertEqual(replaced(funs(3), 3, word("lost")), funs(3, word("lost")))
        self.assertEqual(replaced(op("+", sums(61), HOLE), 1, HOLE), op("+", HOLE, HOLE))

    def binders(self, text):
        """What binds each word of the expression with this text, place by place."""
        expression = parse_expression(text)
        found = [(place, binder_of(expression, place)) for place in range(count_places(expression))]
        return {place: binder for place, binder in found if binder is not None}

    def test_binder_of(self):
        free = ("free",)
        for text, right in (
            ("x", {0: free}), ("1 + hole", {}), ("Cons Nil (f x)", {3: free, 4: free}),
            ("fun x -> x y", {2: ("fun", 0), 3: free}), ("fun x -> fun x -> x", {2: ("fun", 1)}),
            ("fun x -> (fun y -> x y) x y", {5: ("fun", 0), 6: ("fun", 3), 7: ("fun", 0), 8: free}),
            ("let x = x in x", {1: free, 2: ("let", 0)}), ("let x = let x = 1 in x in x", {3: ("let", 1), 4: ("let", 0)}),
            ("fun x -> let y = x in y x", {2: ("fun", 0), 4: ("let", 1), 5: ("fun", 0)}),
            ("match x with | x -> x | y -> x end", {1: free, 3: ("row", 2), 5: free}),
            ("match z with | Cons x y -> y x end", {1: free, 6: ("row", 4), 7: ("row", 3)}),
            ("fun x -> match x with | Cons _ x -> x | _ -> x end", {2: ("fun", 0), 6: ("row", 5), 8: ("fun", 0)}),
            ("match 1 with | Both x (Both y x) -> x y end", {8: ("row", 6), 9: ("row", 5)}),
            ("match 1 with | x -> fun x -> x | y -> let x = y in x end", {4: ("fun", 3), 7: ("row", 5), 8: ("let", 6)}),
            ("(fun f -> f) f", {2: ("fun", 1), 3: free}),
        ):
            self.assertEqual(self.binders(text), right, text)


if __name__ == "__main__":
    unittest.main()
