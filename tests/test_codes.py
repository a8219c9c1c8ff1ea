import random
import unittest
from time import perf_counter

from compiler import compiled_plainly
from makes import DATAS, HOLE, LISTS, fun, make, number, op, random_expression, word
from programs import BOOK, some_expressions
from samples import ODD_VALUES, Raises
from shapelang.codes import code_error, compiled, room_of, run_code
from shapelang.errors import BadCount, HasHole
from shapelang.places import has_room
from shapelang.programs import expression_error
from shapelang.readers import parse_book, parse_expression
from shapelang.running import run

NO_COUNTS = (-1, 2001, True, False, None, "1", (1,), [1], {}, 10 ** 70)
BACK = ("back",)
D = (LISTS,)


def code(*rows, length=0, starts=(), more=()):
    """A code whose main block has these instructions."""
    return (0, starts, ((length, rows), *more))


def pushes(many, *rows):
    return (*[("push", 1)] * many, *rows)


class Forms(unittest.TestCase):
    def wrong(self, value, fault):
        before = repr(value)
        self.assertEqual(code_error(D, value), fault, value)
        self.assertEqual(code_error(D, value), fault)
        self.assertEqual(repr(value), before)

    def test_codes(self):
        block = (0, (("push", 1), BACK))
        for value in (*ODD_VALUES, (0, ()), (0, (), (block,), 0), [0, (), (block,)], (1, (), (block,)), (-1, (), (block,)), (True, (), (block, block)),
                      (False, (), (block,)), (None, (), (block,)), (0, None, (block,)), (0, [], (block,)), (0, (1,), (block,)), (0, (True,), (block,)),
                      (0, ("0",), (block,)), (0, (-1,), (block,)), (0, (), ()), (0, (), [block]), (0, (), None), (0, (), (block,) * 601), ((0,), (), (block,))):
            self.wrong(value, (None, None, "code"))
        for value in ((0, (), (block,)), (1, (0, 1, 1), (block, block)), (599, (), (block,) * 600), (0, (0,) * 9, (block,))):
            self.wrong(value, None)

    def test_blocks(self):
        right = (0, (("push", 1), BACK))
        for value in (*ODD_VALUES, (0,), (0, ()), [0, (BACK,)], (0, [BACK]), (-1, right[1]), (61, right[1]), (True, right[1]), (None, right[1]),
                      (0, (("push", 1),) * 401), (*right, 0)):
            self.wrong((0, (), (right, value)), (1, None, "block"))
            self.wrong((0, (), (value, value)), (0, None, "block"))
        self.wrong((0, (), (right, (60, right[1]), (1, pushes(1, *[("store",), ("push", 1)] * 199, BACK)[:400]))), None)
        self.wrong((0, (), ((1, right[1]),)), (0, None, "block"))
        self.wrong((0, (1,), (right, (1, right[1]))), (1, None, "block"))
        self.wrong((0, (), (right, (1, right[1]))), None)
        # All blocks are looked at ahead of the instructions.
        self.wrong((0, (), ((0, (None,)), None)), (1, None, "block"))

    def test_four_hundred_instructions(self):
        rows = (*[("push", 1), ("store",)] * 199, ("push", 1), BACK)
        self.wrong(code(*rows), None)
        self.wrong(code(*rows[:398], ("push", 1), ("store",), *rows[398:][:1]), (0, None, "block"))

    def test_instructions(self):
        wrong = (
            *ODD_VALUES, (), ("push",), ("push", 1, 1), ("push", -1), ("push", 1000000), ("push", True), ("push", "1"), ("push", None), ["push", 1],
            ("pull", 1), ("load",), ("load", -1), ("load", True), ("load", None), ("load", (0,)), ("store", 0), ("cut",), ("cut", -1), ("cut", False),
            ("build",), ("build", "Lost"), ("build", "List"), ("build", None), ("build", ["Nil"]), ("build", "Nil", 0), ("op",), ("op", "/"), ("op", None),
            ("op", "->"), ("op", "+", 1), ("closure", 1), ("closure", 1, [0]), ("closure", 1, (0, 0)), ("closure", 1, (1, 0)), ("closure", 1, (True,)),
            ("closure", 1, (-1,)), ("closure", 2, ()), ("closure", -1, ()), ("closure", 1, (0, 1)), ("closure", 1, ()), ("closure", 0, ()), ("closure", True, (0,)),
            ("closure", 1, (0,), 0), ("call", 0), ("global",), ("global", 1), ("global", -1), ("global", False), ("global", None), ("back", 0), ("tail", 0),
            ("leave", 1), ("leave",), ("leave", True), ("test", "Nil", 2), ("test", "Nil", 1, 0), ("test", "Nil", 0, 0), ("test", "Nil", 4, 0), ("test", "Nil", -1, 0),
            ("test", "Nil", True, 0), ("test", "Nil", 2, -1), ("test", "Nil", 2, True), ("test", "Lost", 2, 0), ("test", None, 2, 0), ("test", ["Nil"], 2, 0),
            ("jump", 1), ("jump", 0), ("jump", 4), ("jump",), ("jump", True), ("jump", 2, 0), ("jump", None), ("stop", 0), ("stop", -1, 0), ("stop", 0, 1000),
            ("stop", 1000, 0), ("stop", True, 0), ("stop", 0, None), ("stop", 0, 0, 0), (None,), (0, 1), (["push"], 1),
        )
        second = (2, (("push", 1), BACK))
        for row in wrong:
            self.wrong(code(("push", 1), row, ("push", 1), BACK, starts=(0,), more=(second,)), (0, 1, "form"))
        right = (("push", 0), ("push", 999999), ("build", "Nil"), ("build", "True"), ("closure", 1, ()), ("closure", 2, (0,)), ("global", 0))
        more = ((1, (("push", 1), BACK)), (2, (("push", 1), BACK)))
        for row in right:
            self.wrong(code(("push", 1), ("store",), row, BACK, starts=(0,), more=more), None)
        for row in (("leave", 0),):
            self.wrong(code(row, starts=(0,)), None)
        self.wrong(code(("push", 1), ("stop", 999, 999)), None)
        self.wrong(code(("push", 1), ("stop", 0, 0)), None)
        self.wrong(code(("push", 1), ("jump", 2), BACK), None)

    def test_forms_of_all_blocks_come_ahead_of_heights(self):
        self.wrong((0, (), ((0, (BACK,)), (0, (("push", -1), BACK)))), (1, 0, "form"))
        self.wrong((0, (), ((0, (BACK,)), (0, (("push", 1), BACK)))), (0, 0, "stack"))


class Heights(unittest.TestCase):
    def fault(self, rows, fault, **more):
        self.assertEqual(code_error(D, code(*rows, **more)), fault, rows)

    def test_stack(self):
        one = ((1, (("push", 1), BACK)),)
        for rows, at in (((BACK,), 0), (pushes(2, BACK), 2), ((("store",), BACK), 0), (pushes(1, ("op", "+"), BACK), 1), ((("call",), BACK), 0),
                         (pushes(1, ("call",), BACK), 1), (pushes(1, ("tail",)), 1), (pushes(3, ("tail",)), 3), (pushes(1, ("build", "Cons"), BACK), 1),
                         (pushes(1, ("leave", 0)), 1), ((("test", "Nil", 1, 0), ("push", 1), BACK), 0), ((("stop", 0, 0),), 0)):
            self.fault(rows, (0, at, "stack"), starts=(0,), more=one)
        for rows in (pushes(1, BACK), pushes(2, ("tail",)), (("leave", 0),), pushes(2, ("stop", 0, 0)), pushes(5, ("stop", 0, 0)), pushes(2, ("op", "<"), BACK),
                     pushes(2, ("build", "Cons"), BACK), (("build", "Nil"), BACK), pushes(2, ("call",), BACK), (("global", 0), BACK),
                     pushes(1, ("store",), ("push", 1), BACK), (("closure", 1, ()), BACK)):
            self.fault(rows, None, starts=(0,), more=one)

    def test_frame(self):
        one = ((2, (("load", 1), BACK)),)
        for rows, at in (((("load", 0), BACK), 0), (pushes(1, ("store",), ("load", 1), BACK), 2), (pushes(1, ("cut", 1), BACK), 1),
                         (pushes(1, ("store",), ("cut", 0), ("load", 0), BACK), 3), ((("closure", 1, (0,)), BACK), 0),
                         (pushes(1, ("store",), ("closure", 1, (1,)), BACK), 2), (pushes(1, ("test", "Nil", 2, 1), ("push", 1), BACK), 1)):
            self.fault(rows, (0, at, "frame"), more=one)
        for rows in (pushes(1, ("store",), ("load", 0), BACK), pushes(1, ("cut", 0), BACK), pushes(1, ("store",), ("cut", 1), ("load", 0), BACK),
                     pushes(1, ("store",), ("closure", 1, (0,)), BACK), pushes(1, ("test", "Nil", 2, 0), ("push", 1), BACK)):
            self.fault(rows, None, more=one)
        self.assertEqual(code_error(D, (1, (), ((2, (("load", 2), BACK)), (0, pushes(1, BACK))))), (0, 0, "frame"))
        self.assertIsNone(code_error(D, (1, (), ((2, (("load", 1), BACK)), (0, pushes(1, BACK))))))
        # Behind a test, the parts of the maker are entries.
        self.fault(pushes(1, ("test", "Cons", 4, 0), ("load", 1), BACK, ("push", 1), BACK), None)
        self.fault(pushes(1, ("test", "Cons", 4, 0), ("load", 2), BACK, ("push", 1), BACK), (0, 2, "frame"))
        self.fault(pushes(1, ("test", "Cons", 4, 0), ("load", 1), BACK, ("load", 0), BACK), (0, 4, "frame"))

    def test_unlike(self):
        self.fault(pushes(1, ("test", "Cons", 3, 0), ("push", 1), ("push", 1), BACK), (0, 3, "unlike"))
        self.fault(pushes(1, ("test", "Cons", 2, 0), ("push", 1), BACK), (0, 2, "unlike"))
        self.fault(pushes(1, ("test", "Nil", 2, 0), ("push", 1), BACK), None)
        self.fault(pushes(1, ("test", "Cons", 5, 0), ("push", 1), ("cut", 0), ("jump", 6), ("push", 2), BACK), None)
        self.fault(pushes(1, ("test", "Cons", 5, 0), ("push", 1), ("cut", 1), ("jump", 6), ("push", 2), BACK), (0, 6, "unlike"))
        # A fault further on does not come ahead.
        self.fault(pushes(1, ("test", "Cons", 3, 0), ("store",), BACK), (0, 2, "stack"))
        self.fault(pushes(1, ("test", "Cons", 4, 0), ("jump", 4), ("store",), ("op", "+"), BACK), (0, 4, "unlike"))

    def test_end(self):
        for rows, at in (((("push", 1),), 0), ((("global", 0),), 0), (pushes(1, ("cut", 0)), 1), (pushes(1, ("store",)), 1), (pushes(2, ("call",)), 2)):
            self.fault(rows, (0, at, "end"), starts=(0,))
        self.fault((("load", 0),), (0, 0, "frame"))
        self.fault((("store",),), (0, 0, "stack"))

    def test_what_nothing_leads_to(self):
        self.fault(pushes(1, BACK, ("op", "+")), None)
        self.fault(pushes(1, ("jump", 4), ("load", 7), ("op", "+"), BACK), None)
        self.fault(pushes(1, ("stop", 0, 0), ("load", 7)), None)
        self.fault((("leave", 0), ("load", 7)), None, starts=(0,))

    def test_the_first_block(self):
        wrong = (0, (BACK,))
        right = (0, pushes(1, BACK))
        self.assertEqual(code_error(D, (0, (), (right, wrong, wrong))), (1, 0, "stack"))
        self.assertEqual(code_error(D, (0, (), (right, (3, pushes(1, BACK)), (3, (("load", 3), BACK))))), (2, 0, "frame"))


class Compiled(Raises, unittest.TestCase):
    def test_a_second_compiler(self):
        source = random.Random(401)
        for expression in some_expressions(source, 150):
            found = compiled(BOOK, expression)
            self.assertEqual(found, compiled_plainly(BOOK, expression))
            self.assertIsNone(code_error(BOOK[0], found))
            self.assertEqual(compiled(BOOK, expression), found)

    def test_expressions_of_any_shape(self):
        """What is compiled does not ask for shapes: expressions that only fit are compiled alike."""
        source = random.Random(402)
        known = tuple((definition[0], 0) for definition in BOOK[1])
        many = 0
        while many < 250:
            expression = random_expression(source, 6, ("id", "len", "map"))
            if "'hole'" in repr(expression) or not has_room(expression) or expression_error(DATAS, known, expression) is not None:
                continue
            many += 1
            found = compiled(BOOK, expression)
            self.assertEqual(found, compiled_plainly(BOOK, expression))
            self.assertIsNone(code_error(BOOK[0], found))

    def test_rows_that_are_left_out(self):
        text = "fun x -> match x with | y -> fun a -> y | z -> fun b -> x + z | Nil -> fun c -> fun d -> c end"
        found = compiled(((LISTS,), ()), parse_expression(text))
        self.assertEqual(found, (0, (), (
            (0, (("closure", 1, ()), BACK)),
            (1, (("load", 0), ("store",), ("closure", 2, (1,)), BACK)), (2, (("load", 0), BACK)),
            (3, (("load", 0), ("load", 1), ("op", "+"), BACK)), (1, (("closure", 5, (0,)), BACK)), (2, (("load", 0), BACK)))))
        inside = compiled(((), ()), parse_expression("1 + match 2 with | x -> x | y -> 7 end"))
        self.assertEqual(inside[2][0][1], (("push", 1), ("push", 2), ("store",), ("load", 0), ("cut", 0), ("jump", 6), ("op", "+"), BACK))
        self.assertEqual(compiled(((), ()), parse_expression("match 2 with end"))[2][0][1], (("push", 2), ("store",), ("load", 0), ("stop", 0, 0)))

    def test_holes(self):
        whole = ((), (("x", None, number()), ("y", None, fun("z", HOLE))))
        for expression, spot in ((number(), (1, 1)), (op("+", number(), HOLE), (2, 2)), (HOLE, (2, 0))):
            self.refused(HasHole, {"spot": spot}, compiled, whole, expression)

    def test_codes_at_the_bounds_fit(self):
        pattern = make("Node", make("Leaf"), word("a"), make("Leaf"))
        for many in range(8, 0, -1):
            rows = tuple((pattern, word("a")) for _ in range(many))
            expression = fun("x", ("match", word("x"), rows))
            if has_room(expression):
                break
        whole = (DATAS, tuple((f"w{at}", None, expression) for at in range(8)))
        found = compiled(whole, expression)
        self.assertIsNone(code_error(DATAS, found))
        self.assertEqual(found, compiled_plainly(whole, expression))
        lets = number(1)
        for at in range(18):
            lets = ("let", f"v{at}", number(at), fun(f"u{at}", lets)) if at % 2 else ("let", f"v{at}", lets, word(f"v{at}"))
        if has_room(lets):
            self.assertEqual(compiled(((), ()), lets), compiled_plainly(((), ()), lets))


class Runs(Raises, unittest.TestCase):
    def test_as_run_tells(self):
        source = random.Random(411)
        for expression in some_expressions(source, 100):
            found = compiled(BOOK, expression)
            for calls in (0, 1, 3, 8, 400):
                right, made = run(BOOK, expression, calls)
                outcome, steps = run_code(BOOK[0], found, calls)
                self.assertEqual(steps, made)
                if right[0] == "open":
                    self.assertEqual((outcome[0], len(outcome)), ("open", 3))
                    row = found[2][outcome[1]][1][outcome[2]]
                    self.assertIn(row[0], ("call", "tail", "global", "leave"))
                else:
                    self.assertEqual(outcome, right)

    def test_odd_values(self):
        fun_block = ((1, (("load", 0), BACK)),)
        for rows, at in ((pushes(2, ("call",), BACK), 2), (pushes(2, ("tail",)), 2), ((("closure", 1, ()), ("push", 1), ("op", "+"), BACK), 2),
                         ((("push", 1), ("closure", 1, ()), ("op", "="), BACK), 2), ((("push", 1), ("build", "Nil"), ("op", "<"), BACK), 2),
                         (pushes(1, ("test", "Nil", 2, 0), ("push", 1), BACK), 1), ((("closure", 1, ()), ("test", "Nil", 2, 0), ("push", 1), BACK), 1),
                         ((("build", "Nil"), ("push", 1), ("call",), BACK), 2)):
            self.assertIsNone(code_error(D, code(*rows, more=fun_block)))
            for calls in (0, 5):
                self.assertEqual(run_code(D, code(*rows, more=fun_block), calls), (("odd", 0, at), 0), rows)
        inner = code(("closure", 1, ()), ("push", 1), ("call",), BACK, more=((1, (("load", 0), ("load", 0), ("tail",))),))
        self.assertEqual(run_code(D, inner, 1), (("odd", 1, 2), 1))
        self.assertEqual(run_code(D, inner, 0), (("open", 0, 2), 0))

    def test_ends(self):
        self.assertEqual(run_code(D, code(("push", 5), BACK), 0), (("value", 5), 0))
        self.assertEqual(run_code(D, code(("build", "Nil"), ("stop", 999, 7)), 0), (("missing", make("Nil"), (999, 7)), 0))
        self.assertEqual(run_code(D, code(("closure", 1, ()), ("stop", 0, 0), more=((1, (("load", 0), BACK)),)), 0), (("missing", ("fun",), (0, 0)), 0))
        # A test of another maker, and of the same one.
        for name, value in (("Nil", 1), ("True", 2), ("Cons", 2)):
            rows = (("build", "Nil"), ("test", name, 4, 0), ("push", 1), BACK, ("push", 2), BACK)
            self.assertEqual(run_code(D, code(*rows), 0), (("value", value), 0))
        rows = (("push", 1), ("push", 2), ("build", "Cons"), ("test", "Cons", 8, 0), ("load", 1), ("load", 0), ("op", "-"), BACK, ("push", 9), BACK)
        self.assertEqual(run_code(D, code(*rows), 0), (("value", 1), 0))
        loop = code(("leave", 0), starts=(0,))
        self.assertEqual(run_code(D, loop, 2000), (("open", 0, 0), 2000))
        self.assertEqual(room_of(D, loop, 2000), 1)
        deep = code(("global", 0), BACK, starts=(0,))
        self.assertEqual(run_code(D, deep, 1999), (("open", 0, 0), 1999))
        self.assertEqual([room_of(D, deep, calls) for calls in (0, 1, 2000)], [1, 2, 2001])

    def test_counts(self):
        for function in (run_code, room_of):
            for value in NO_COUNTS:
                caught = self.refused(BadCount, {"value": value}, function, D, code(("push", 5), BACK), value)
                self.assertIs(caught.value, value)

    def test_room(self):
        book = parse_book("""data List a is Nil, Cons a (List a); len is fun x -> match x with | Nil -> 0 | Cons _ y -> 1 + len y end;
            add is fun x -> fun n -> match x with | Nil -> n | Cons _ y -> add y (n + 1) end;
            count is fun n -> fun l -> match n = 0 with | True -> l | _ -> count (n - 1) (Cons n l) end; down is fun n -> match n = 0 with | True -> 0 | _ -> 1 + down (n - 1) end;""")
        for text, calls, room in (("len Nil", 9, 2), ("len (Cons 7 (Cons 8 Nil))", 9, 3), ("count 5 Nil", 99, 2), ("count 300 Nil", 2000, 2), ("add (count 50 Nil) 0", 2000, 3),
                                  ("down 5", 99, 6), ("down 5", 4, 2), ("down 5", 0, 1), ("3", 9, 1)):
            found = compiled(book, parse_expression(text))
            self.assertEqual(room_of(book[0], found, calls), room, text)
            self.assertEqual(room_of(book[0], found, calls), room)

    def test_great_codes_take_no_time(self):
        rows = (*[("push", 1), ("store",)] * 190, ("leave", 0))
        great = code(*rows, starts=(0,))
        self.assertIsNone(code_error(D, great))
        start = perf_counter()
        self.assertEqual(run_code(D, great, 2000), (("open", 0, 380), 2000))
        self.assertLess(perf_counter() - start, 1.5)
        many = (0, (), tuple((0, (*[("push", 1), ("store",)] * 13, ("push", 1), BACK)) for _ in range(600)))
        start = perf_counter()
        self.assertIsNone(code_error(D, many))
        self.assertLess(perf_counter() - start, 1)


if __name__ == "__main__":
    unittest.main()
