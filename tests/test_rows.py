import random
import unittest

from makes import ANY, BOOLS, DATAS, HOLE, NIL, NO, YES, forms_listed, make, meeting, number, random_pattern, too_much_met, word
from samples import BOOL, INT, ODD_VALUES, Raises
from shapelang.errors import NotMet, TooLarge
from shapelang.rows import bound_by, first_row, meets, rows_error

MET = {"limit": 200}
PAIRS = ("Pair", BOOLS, ("List", INT))


def cons(first, rest):
    return make("Cons", first, rest)


def both(one, other):
    return make("Both", one, other)


def tower(many, inner=ANY):
    """A pattern with so many others within one another."""
    for _ in range(many):
        inner = cons(ANY, inner)
    return inner


class Faults(Raises, unittest.TestCase):
    def error(self, *rows, shape=BOOLS):
        return rows_error(DATAS, shape, rows)

    def test_rows(self):
        for shape, rows in ((BOOLS, ()), (INT, (ANY, word("x"))), (0, (word("x"),)), (("->", 0, 1), (ANY,)), (("Void",), (ANY,)),
                            (BOOLS, (NIL, cons(YES, word("r")), cons(word("x"), word("y")), ANY)), (BOOL, (YES, NO) * 4),
                            (PAIRS, (both(cons(NO, NIL), cons(word("x"), word("y"))), word("x"))), (BOOLS, (ANY,) * 8),
                            (("Work", 0, INT), (make("Idle", ANY, make("Do", word("f"))),)), (BOOLS, (word("x"), word("x")))):
            self.assertIsNone(rows_error(DATAS, shape, rows))

    def test_what_is_no_tuple_of_eight(self):
        for value in (None, [], [ANY], "rows", {}, 0, True, {"a": ANY}, (ANY,) * 9, (None,) * 9):
            self.assertEqual(rows_error(DATAS, BOOLS, value), (None, "rows"))

    def both_places(self, wrong, reason):
        """The pattern is wrong by itself, and the first place wins."""
        self.assertEqual(self.error(wrong), ((0,), reason))
        self.assertEqual(self.error(ANY, wrong), ((1,), reason))
        self.assertEqual(self.error(cons(ANY, wrong), shape=("List", INT)), ((0, 1), reason))
        for second, other in ((None, "form"), (make("Lost"), "maker")):
            self.assertEqual(self.error(wrong, second), ((0,), reason))
            self.assertEqual(self.error(second, wrong), ((0,), other))
            self.assertEqual(self.error(cons(second, wrong)), ((0, 0), other))
            self.assertEqual(self.error(both(wrong, second), shape=PAIRS), ((0, 0), reason))

    def test_forms(self):
        for value in (*ODD_VALUES, HOLE, number(1), ("any", 1), ("any", ANY), ["any"], "any", word("end"), word("A"), word(1),
                      ("word",), ("word", "x", "y"), ("make",), make("cons"), make(None), make(["Nil"]), ("call", ANY, ANY),
                      ("fun",), ("fun", "x", ANY)):
            self.both_places(value, "form")

    def test_makers(self):
        for value in (make("Lost"), make("Nil", ANY), make("Cons", ANY), make("Cons", ANY, ANY, ANY), make("Cons"), YES, make("Leaf"),
                      make("List", ANY), make("Nil", None)):
            self.both_places(value, "maker")
        for shape in (INT, 0, ("->", BOOLS, BOOLS), ("Void",), BOOL):
            self.assertEqual(self.error(NIL, shape=shape), ((0,), "maker"))
            self.assertEqual(self.error(ANY, cons(ANY, NIL), shape=shape), ((1,), "maker"))
        self.assertEqual(self.error(cons(NIL, ANY)), ((0, 0), "maker"))
        self.assertEqual(self.error(cons(YES, ANY), shape=("List", 0)), ((0, 0), "maker"))
        self.assertEqual(self.error(cons(YES, ANY), shape=("List", INT)), ((0, 0), "maker"))
        self.assertEqual(self.error(cons(YES, cons(ANY, YES))), ((0, 1, 1), "maker"))

    def test_words_twice(self):
        x = word("x")
        self.assertEqual(self.error(x, x, cons(x, word("y")), cons(x, x)), ((3, 1), "twice"))
        self.assertEqual(self.error(cons(x, cons(word("y"), x))), ((0, 1, 1), "twice"))
        self.assertEqual(self.error(both(cons(ANY, x), cons(x, NIL)), shape=PAIRS), ((0, 1, 0), "twice"))
        self.assertEqual(self.error(both(both(x, x), None), shape=("Pair", ("Pair", 0, 0), 0)), ((0, 0, 1), "twice"))
        self.assertEqual(self.error(both(cons(x, x), None), shape=PAIRS), ((0, 0, 1), "twice"))
        self.assertEqual(self.error(both(cons(x, None), x), shape=PAIRS), ((0, 0, 1), "form"))

    def test_sizes(self):
        # A tower of n has 2 * n + 1 places: 56, 60 and 62 places here.
        self.assertIsNone(self.error(*[tower(3)] * 8))
        self.assertIsNone(self.error(*[tower(3)] * 6, tower(4), tower(4)))
        self.assertEqual(self.error(*[tower(3)] * 6, tower(4), tower(5)), (None, "size"))
        self.assertIsNone(self.error(*[tower(14)] * 2, ANY, ANY))
        self.assertEqual(self.error(*[tower(14)] * 2, ANY, ANY, ANY), (None, "size"))
        self.assertIsNone(self.error(tower(18)))
        self.assertIsNone(self.error(tower(19)))
        self.assertEqual(self.error(tower(20)), (None, "size"))
        self.assertEqual(self.error(tower(20, YES)), ((0, *[1] * 20), "maker"))
        self.assertEqual(self.error(tower(40), None), ((1,), "form"))

    def test_too_much_is_met(self):
        for datas, shape in too_much_met():
            for value in (*ODD_VALUES, (ANY,), (None,), (ANY,) * 9):
                self.refused(TooLarge, MET, rows_error, datas, shape, value)
        datas, shape = meeting(200)
        self.assertIsNone(rows_error(datas, shape, (make("S6", word("f")), ANY)))

    def test_any_value_in_each_place(self):
        for value in ODD_VALUES:
            self.assertEqual(self.error(cons(YES, cons(value, NIL)), None), ((0, 1, 0), "form"))
            self.assertEqual(self.error(cons(value, None)), ((0, 0), "form"))


def met_by_rule(pattern, form):
    """Whether the pattern meets the form, by point 17 written down once more."""
    if pattern[0] in ("any", "word"):
        return True
    return form != ANY and not isinstance(form, int) and form[:2] == pattern[:2] and all(
        met_by_rule(inner, part) for inner, part in zip(pattern[2:], form[2:]))


class Meetings(Raises, unittest.TestCase):
    def test_forms(self):
        source = random.Random(91)
        for shape in (BOOLS, ("List", 0), ("Pair", BOOL, BOOLS), ("Tree", BOOL), ("Pair", 0, ("Tree", INT))):
            patterns = [random_pattern(source, 3, ["x", "y", "z"]) for _ in range(600)]
            patterns = [pattern for pattern in patterns if rows_error(DATAS, shape, (pattern,)) is None]
            self.assertGreater(len(patterns), 50)
            forms = [form for size in range(6) for form in forms_listed(DATAS, shape, size)]
            for pattern in patterns[:80]:
                for form in forms:
                    self.assertEqual(meets(pattern, form), met_by_rule(pattern, form))
                    if not meets(pattern, form):
                        caught = self.refused(NotMet, {"value": form}, bound_by, pattern, form)
                        self.assertIs(caught.value, form)
            rows = tuple(patterns[:5])
            for form in forms:
                first = [index for index, row in enumerate(rows) if met_by_rule(row, form)]
                self.assertEqual(first_row(rows, form), first[0] if first else None)

    def test_values(self):
        for pattern, value, right in (
            (ANY, 7, True), (word("x"), ("fun",), True), (NIL, NIL, True), (NIL, cons(1, NIL), False), (cons(ANY, NIL), cons(1, NIL), True),
            (cons(ANY, NIL), cons(("fun",), cons(2, NIL)), False), (cons(YES, ANY), cons(NO, NIL), False), (YES, YES, True),
            (both(word("x"), NIL), both(0, NIL), True), (cons(ANY, word("r")), NIL, False),
        ):
            self.assertEqual(meets(pattern, value), right)
            self.assertEqual(first_row((NIL, pattern), value), 0 if value == NIL else 1 if right else None)
            self.assertEqual(first_row((pattern, ANY), value), 0 if right else 1)
        self.assertIsNone(first_row((), 3))

    def test_bound_by(self):
        x, y, z = word("x"), word("y"), word("z")
        self.assertEqual(bound_by(x, 7), (("x", 7),))
        self.assertEqual(bound_by(ANY, 7), ())
        self.assertEqual(bound_by(NIL, NIL), ())
        value = both(cons(1, NIL), both(("fun",), cons(2, cons(3, NIL))))
        self.assertEqual(bound_by(both(cons(z, y), both(x, ANY)), value), (("z", 1), ("y", NIL), ("x", ("fun",))))
        self.assertEqual(bound_by(both(z, both(ANY, cons(y, x))), value), (("z", cons(1, NIL)), ("y", 2), ("x", cons(3, NIL))))
        self.assertEqual(bound_by(make("Node", z, y, x), make("Node", make("Leaf"), 1, make("Leaf"))),
                         (("z", make("Leaf")), ("y", 1), ("x", make("Leaf"))))
        self.assertIs(bound_by(both(x, ANY), value)[0][1], value[2])
        for pattern in (NIL, cons(x, y), both(NIL, y), both(x, both(y, NIL))):
            caught = self.refused(NotMet, {"value": value}, bound_by, pattern, value)
            self.assertIs(caught.value, value)

    def test_great_values(self):
        value = NIL
        for _ in range(3000):
            value = cons(YES, value)
        self.assertTrue(meets(tower(15), value))
        self.assertEqual(first_row((NIL, cons(NO, ANY), cons(ANY, word("r"))), value), 2)
        self.assertIs(bound_by(cons(ANY, word("r")), value)[0][1], value[3])


if __name__ == "__main__":
    unittest.main()
