import random
import unittest
from itertools import islice
from time import perf_counter

from evaluator import evaluated
from makes import HOLE, fun, make, number, word
from programs import BOOK, some_expressions
from samples import Raises
from shapelang.errors import BadCount, HasHole, NoWord
from shapelang.readers import parse_book, parse_expression
from shapelang.running import each_step, run, run_word, trace
from shapelang.writers import expression_text

NO_COUNTS = (-1, 2001, True, False, None, "1", (1,), [1], {}, 10 ** 70)
NO_WORDS = ("x", "Len", "", None, 0, True, ("len",), ["len"], {}, "len ", "fun")
NIL = make("Nil")
FUN = ("fun",)
HERE = len(BOOK[1])


def list_of(*items):
    found = NIL
    for item in items[::-1]:
        found = make("Cons", item, found)
    return found


def given(text, calls=2000):
    return run(BOOK, parse_expression(text), calls)[0]


class Values(Raises, unittest.TestCase):
    def test_values(self):
        for text, value in (
            ("7", 7), ("len all", 2), ("map (fun x -> x * x) all", list_of(1, 4)), ("id", FUN), ("Both id (Both 3 (pick 1))", make("Both", FUN, make("Both", 3, FUN))),
            ("flat (Node (Node Leaf 1 Leaf) 2 (Node Leaf 3 Leaf)) Nil", list_of(1, 2, 3)), ("5 < 6", make("True")), ("6 < 5", make("False")),
            ("6 = 6", make("True")), ("5 < 5", make("False")), ("5 = 6", make("False")), ("id id (id 3)", 3),
        ):
            self.assertEqual(given(text), ("value", value), text)

    def test_numbers_are_counted_round(self):
        for text, value in (("999999 + 1", 0), ("999999 + 999999", 999998), ("0 - 1", 999999), ("3 - 5", 999998), ("0 - 999999", 1),
                            ("1000 * 1000", 0), ("999999 * 999999", 1), ("123456 * 654321", 123456 * 654321 % 10 ** 6), ("5 - 5", 0)):
            self.assertEqual(given(text), ("value", value), text)
        self.assertEqual(given("(0 - 1) < 1"), ("value", make("False")))

    def test_words(self):
        for text, value in (("let x = 1 in let x = x + 1 in x", 2), ("(fun len -> len + 1) 4", 5), ("let one = 7 in one", 7), ("one", 1),
                            ("let f = (let x = 3 in fun y -> x + y) in let x = 100 in f x", 103), ("let x = 1 in (let x = 2 in x) + x", 3),
                            ("match Both 1 (Both 2 3) with | Both x (Both y z) -> x * 100 + y * 10 + z end", 123),
                            ("let x = 5 in match 6 with | x -> x end + x", 11), ("(fun x -> fun x -> x) 1 2", 2),
                            ("match id with | _ -> 1 end + match id with | f -> f 5 end", 6)):
            self.assertEqual(given(text), ("value", value), text)

    def test_matches_that_no_row_meets(self):
        for text, value, place in (("match all with | Nil -> 1 | Cons _ Nil -> 2 end", list_of(1, 2), 0), ("match id with end", FUN, 0),
                                   ("1 + match Both id 2 with end", make("Both", FUN, 2), 2), ("match 3 with end", 3, 0)):
            self.assertEqual(given(text), ("missing", value, (HERE, place)), text)
        whole = parse_book("data List a is Nil, Cons a (List a); head is fun x -> match x with | Cons y _ -> y end; two is 1 + head Nil;")
        self.assertEqual(run(whole, word("two"), 9), (("missing", NIL, (0, 1)), 3))
        self.assertEqual(run(whole, parse_expression("match two with | _ -> 1 end"), 9), (("missing", NIL, (0, 1)), 3))

    def test_left_to_right(self):
        whole = parse_book("data P is P1 Int Int; a is fun x -> x; b is fun x -> x; c is fun x -> fun y -> x;")
        for text, words in (("a 1 + b 2", "ab"), ("P1 (b 1) (a 2)", "ba"), ("c (a 1) (b 2)", "cab"), ("let x = a 1 in b x", "ab"),
                            ("match b 1 with | x -> a x end", "ba"), ("(match 1 with | _ -> b end) (a 1)", "ba"), ("a 1 < b 2", "ab"), ("a 1 = b 2", "ab")):
            steps = trace(whole, parse_expression(text), 50)
            self.assertEqual("".join("abc"[step[1][0]] for step in steps if step[2] is None), words, text)


class Shown(unittest.TestCase):
    def test_levels(self):
        for many, large in ((98, False), (99, False), (100, True), (400, True)):
            outcome = given(f"count {many}")
            if large:
                self.assertEqual(outcome, ("value", ("large",)))
            else:
                self.assertEqual(outcome, ("value", list_of(*range(many, 0, -1))))
        # A maker without parts, a number and a function are one level.
        whole = parse_book("data N is N0, Nx N, F (Int -> Int), I Int; box is fun n -> fun f -> match n = 0 with | True -> f | _ -> Nx (box (n - 1) f) end;")
        for many, inner, large in ((99, "N0", False), (100, "N0", True), (98, "(F (fun x -> x))", False), (99, "(F (fun x -> x))", True), (98, "(I 5)", False), (99, "(I 5)", True)):
            outcome, _ = run(whole, parse_expression(f"box {many} {inner}"), 2000)
            self.assertEqual(outcome == ("value", ("large",)), large)
            self.assertEqual(outcome, evaluated(whole, parse_expression(f"box {many} {inner}"), 2000)[0])

    def test_items(self):
        whole = parse_book("""data T is L, N T T T, I T Int, F (Int -> Int);
            full is fun n -> match n = 0 with | True -> L | _ -> let t = full (n - 1) in N t t t end;""")
        # A full one of n levels has (3 ** (n + 1) - 1) / 2 makers: 364 of five, 121 of four, 4 of one.
        for last, many in (("full 1", 490), ("N (full 1) (full 1) (full 1)", 499), ("N (full 1) (full 1) (I (I L 1) 2)", 500),
                           ("N (full 1) (full 1) (I (F (fun x -> x)) 2)", 499), ("N (full 1) (full 1) (I (I (F (fun x -> x)) 2) 3)", 501),
                           ("N (full 1) (full 1) (N (F (fun x -> x)) L L)", 500), ("I (N (full 1) (full 1) (full 1)) 7", 501), ("N (full 1) (full 1) (N (full 1) L L)", 502), ("full 5", 850)):
            expression = parse_expression(f"N (full 5) (full 4) ({last})")
            outcome, _ = run(whole, expression, 2000)
            self.assertEqual(outcome, evaluated(whole, expression, 2000)[0])
            self.assertEqual(outcome == ("value", ("large",)), many > 500)
        self.assertEqual(run(whole, parse_expression("full 600"), 2000)[0], ("value", ("large",)))

    def test_great_values_take_no_time(self):
        whole = parse_book("""data T is L, N T T T; twice is fun n -> fun t -> match n = 0 with | True -> t | _ -> twice (n - 1) (N t t t) end;
            deep is fun n -> fun t -> match n = 0 with | True -> match t with end | _ -> deep (n - 1) (N t L L) end;""")
        start = perf_counter()
        self.assertEqual(run(whole, parse_expression("twice 600 L"), 2000), (("value", ("large",)), 1803))
        self.assertEqual(run(whole, parse_expression("deep 600 L"), 2000), (("missing", ("large",), (1, 7)), 1803))
        self.assertEqual(len(trace(whole, parse_expression("twice 999 L"), 2000)), 2000)
        self.assertIn(("large",), [argument for _, _, argument in trace(whole, parse_expression("twice 50 L"), 200)])
        self.assertLess(perf_counter() - start, 2)


class Runs(Raises, unittest.TestCase):
    def test_a_second_evaluator(self):
        source = random.Random(331)
        seen = {}
        for expression in some_expressions(source, 120):
            for calls in (0, 1, 2, 5, 17, 400):
                outcome, steps = evaluated(BOOK, expression, calls)
                self.assertEqual(run(BOOK, expression, calls), (outcome, len(steps)), expression_text(expression))
                self.assertEqual(trace(BOOK, expression, calls), steps)
                self.assertEqual(tuple(islice(each_step(BOOK, expression), calls)), steps)
                seen[outcome[0]] = seen.get(outcome[0], 0) + 1
        self.assertGreater(min(seen.values()), 60)
        self.assertEqual(len(seen), 3)

    def test_the_last_step(self):
        expression = parse_expression("len (Cons 7 Nil)")
        outcomes = [run(BOOK, expression, calls) for calls in range(7)]
        self.assertEqual([made for _, made in outcomes], [0, 1, 2, 3, 4, 4, 4])
        self.assertEqual(outcomes[4][0], ("value", 1))
        self.assertEqual([outcome for outcome, _ in outcomes[:4]], [("open", (HERE, 1)), ("open", (HERE, 0)), ("open", (4, 11)), ("open", (4, 10))])
        endless = parse_book("f is fun x -> f (x + 1); g is g; h is fun x -> 1 + h x;")
        for text, calls, spot in (("f 1", 2000, (0, 2)), ("g", 2000, (1, 0)), ("h 1", 2000, (2, 4)), ("f 1", 1999, (0, 1)), ("g", 0, (3, 0)),
                                  ("g", 1, (1, 0)), ("h 1", 1999, (2, 3))):
            found, made = run(endless, parse_expression(text), calls)
            self.assertEqual(made, calls)
            self.assertEqual(found, evaluated(endless, parse_expression(text), calls)[0])
            self.assertEqual(found, ("open", spot))

    def test_counts(self):
        for function in (run, trace):
            for value in NO_COUNTS:
                caught = self.refused(BadCount, {"value": value}, function, BOOK, number(), value)
                self.assertIs(caught.value, value)
        for value in NO_COUNTS:
            self.refused(BadCount, {"value": value}, run_word, BOOK, "nobody", (), value)
        self.assertEqual(run(BOOK, number(), 0), (("value", 0), 0))
        self.assertEqual(run(BOOK, number(), 2000), (("value", 0), 0))

    def test_holes(self):
        whole = (BOOK[0], (("x", None, number()), ("y", None, fun("z", HOLE)), ("z", None, HOLE)))
        for expression, spot in ((number(), (1, 1)), (("op", "+", number(), HOLE), (3, 2)), (make("Cons", HOLE, HOLE), (3, 1)), (HOLE, (3, 0))):
            for function, more in ((run, ("x",)), (trace, ("x",))):
                self.refused(HasHole, {"spot": spot}, function, whole, expression, *more)
            with self.assertRaises(HasHole) as caught:
                next(each_step(whole, expression))
            self.assertEqual(caught.exception.spot, spot)
        self.refused(HasHole, {"spot": (1, 1)}, run_word, whole, "nobody", (), "x")
        part = parse_expression("match 1 with | _ -> hole end")
        self.refused(HasHole, {"spot": (HERE, 3)}, run, BOOK, part, 9)
        self.refused(HasHole, {"spot": (HERE, 3)}, run, BOOK, part, None)

    def test_words_with_values(self):
        trees = make("Node", make("Leaf"), 5, make("Leaf"))
        for name, values in (("len", (list_of(1, 2),)), ("one", ()), ("all", ()), ("pick", (1, make("True"))), ("pick", (1,)), ("id", (trees,)), ("len", ()),
                             ("count", (3,)), ("flat", (trees, NIL)), ("flat", (trees,)), ("id", (7,)), ("pick", ())):
            expression = word(name)
            for value in values:
                expression = ("call", expression, as_expression(value))
            for calls in (0, 1, 2, 3, 4, 200):
                outcome, made = run_word(BOOK, name, values, calls)
                right, found = run(BOOK, expression, calls)
                self.assertEqual(made, found)
                if right[0] == "open" and right[1][0] == HERE:
                    # The word has the same place, the calls have the indexes of their values, the first one innermost.
                    place = right[1][1]
                    self.assertEqual(outcome, ("open", (HERE, place if place == len(values) else len(values) - 1 - place)), (name, calls))
                else:
                    self.assertEqual(outcome, right)
        self.assertEqual(run_word(BOOK, "pick", (1, 2), 0), (("open", (HERE, 2)), 0))
        self.assertEqual(run_word(BOOK, "pick", (1, 2), 1), (("open", (HERE, 0)), 1))
        self.assertEqual(run_word(BOOK, "pick", (1, 2), 2), (("open", (HERE, 1)), 2))
        self.assertEqual(run_word(BOOK, "pick", (1, 2), 3), (("value", 1), 3))
        self.assertEqual(run_word(BOOK, "one", (), 0), (("open", (HERE, 0)), 0))

    def test_no_words(self):
        for value in NO_WORDS:
            caught = self.refused(NoWord, {"word": value}, run_word, BOOK, value, (), 9)
            self.assertIs(caught.word, value)

    def test_the_same_again(self):
        expression = parse_expression("map (fun x -> x + one) (count 9)")
        before = repr((BOOK, expression))
        for function in (run, trace):
            self.assertEqual(function(BOOK, expression, 77), function(BOOK, expression, 77))
        self.assertEqual(repr((BOOK, expression)), before)
        values = (list_of(1, 2, 3),)
        self.assertEqual(run_word(BOOK, "len", values, 99), run_word(BOOK, "len", values, 99))
        self.assertEqual(values, (list_of(1, 2, 3),))

    def test_steps_without_an_end(self):
        endless = parse_book("f is fun x -> f (x + 1);")
        steps = list(islice(each_step(endless, parse_expression("f 1")), 50000))
        self.assertEqual(steps[0], ((1, 1), (0, 0), None))
        self.assertEqual(steps[1], ((1, 0), (0, 0), 1))
        self.assertEqual(steps[-1], ((0, 1), (0, 0), 25000))
        self.assertEqual(list(each_step(endless, number())), [])

    def test_great_runs_take_no_time(self):
        whole = parse_book("""data List a is Nil, Cons a (List a);
            f is fun x -> f ((x + 1 + 2 + 3 + 4) * (5 + 6 + 7 + 8 + 9) - ((10 + 11 + 12 + 13) * (14 + 15 + 16 + 17 + 18 + 19) + 1 + 2 + 3));
            g is fun x -> g (Cons 1 (Cons 2 (Cons 3 (Cons 4 (Cons 5 (Cons 6 (Cons 7 x)))))));
            h is fun x -> 1 + h (x + 1);""")
        for text in ("f 1", "g Nil", "h 1"):
            start = perf_counter()
            for function in (run, trace):
                function(whole, parse_expression(text), 2000)
            self.assertLess(perf_counter() - start, 1)


def as_expression(value):
    """The expression that gives a value without functions."""
    return number(value) if isinstance(value, int) else make(value[1], *[as_expression(part) for part in value[2:]])


if __name__ == "__main__":
    unittest.main()
