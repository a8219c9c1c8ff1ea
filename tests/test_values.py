import random
import unittest

from makes import ANY, BOOLS, DATAS, LISTS, NIL, NO, YES, deep_lists, forms_listed, make, meeting, number, too_much_met
from samples import BOOL, INT, ODD_VALUES, Raises
from shapelang.errors import BadValue, TooLarge
from shapelang.schemes import Scheme
from shapelang.shapes import count_nodes
from shapelang.values import form_of, is_form, is_value, scheme_of

MET = {"limit": 200}
FUN = ("fun",)
SHAPES = (INT, BOOL, BOOLS, ("List", INT), ("Pair", BOOL, ("->", INT, INT)), ("->", BOOL, INT), ("Void",),
          ("Work", INT, BOOL), ("Tree", BOOL), ("Rose", ("Pair", INT, BOOL)), ("List", ("Void",)))
OTHERS = (7, FUN, ANY, NIL, YES, make("Cons", 1, NIL), make("Cons", YES, NIL), make("Both", YES, FUN), make("Do", FUN),
          make("Idle", 1, make("Do", FUN)), make("Leaf"), make("Cons", ANY, NIL), make("Both", YES, ANY), make("Do", ANY),
          make("Rosy", make("Both", 1, YES), NIL), make("Idle", ANY, make("Do", ANY)), make("Node", make("Leaf"), NO, make("Leaf")))


def value_by_rule(shape, value):
    """Whether the value is one of the shape, by point 15 written down once more."""
    if shape == INT:
        return isinstance(value, int) and not isinstance(value, bool) and 0 <= value <= 999999
    if shape[0] == "->":
        return value == FUN
    return by_maker(shape, value, value_by_rule)


def form_by_rule(shape, value):
    if not isinstance(shape, tuple) or shape == INT or shape[0] == "->":
        return value == ANY
    return by_maker(shape, value, form_by_rule)


def by_maker(shape, value, rule):
    for name, parts in parts_listed(shape):
        if isinstance(value, tuple) and value[:2] == ("make", name) and len(value) == 2 + len(parts):
            return all(rule(part, inner) for part, inner in zip(parts, value[2:]))
    return False


def parts_listed(shape):
    from makes import parts_in
    table = {name: makers for name, _, makers in (("Bool", 0, (("False",), ("True",))), *DATAS)}
    return [(maker[0], [parts_in(shape, part) for part in maker[1:]]) for maker in table[shape[0]]]


def random_value(source, shape, depth):
    """A value of the shape, None if none was found."""
    if shape == INT:
        return source.choice([0, 1, 999999, source.randrange(1000000)])
    if shape[0] == "->":
        return FUN
    for name, parts in source.sample(parts_listed(shape), len(parts_listed(shape))):
        if depth > 0 or not parts:
            inner = [random_value(source, part, depth - 1) for part in parts]
            if None not in inner:
                return make(name, *inner)
    return None


def form_by_value(value):
    return ANY if isinstance(value, int) or value == FUN else make(value[1], *[form_by_value(part) for part in value[2:]])


def nest(many, inner=NIL, part=YES):
    """A list of so many parts."""
    for _ in range(many):
        inner = make("Cons", part, inner)
    return inner


class Values(Raises, unittest.TestCase):
    def test_integers(self):
        for value, right in ((0, True), (999999, True), (1000000, False), (-1, False), (True, False), (False, False),
                             ("1", False), (None, False), (number(1), False), (ANY, False), (FUN, False), ((1,), False)):
            self.assertEqual(is_value(DATAS, INT, value), right)
            self.assertEqual(is_value(DATAS, ("List", INT), make("Cons", value, NIL)), right)

    def test_functions(self):
        for shape in (("->", INT, INT), ("->", ("Void",), BOOL)):
            for value, right in ((FUN, True), (["fun"], False), ("fun", False), (("fun", 1), False), (("fun", "x", 1), False),
                                 (ANY, False), (0, False), (None, False), (("Fun",), False)):
                self.assertEqual(is_value(DATAS, shape, value), right)

    def test_values_and_forms_by_rule(self):
        source = random.Random(71)
        values = [random_value(source, shape, 4) for shape in SHAPES for _ in range(30)]
        values = [value for value in values if value is not None] + [*OTHERS, *ODD_VALUES]
        for shape in SHAPES:
            for value in values:
                self.assertEqual(is_value(DATAS, shape, value), value_by_rule(shape, value), (shape, value))
                self.assertEqual(is_form(DATAS, shape, value), form_by_rule(shape, value), (shape, value))
                if value_by_rule(shape, value):
                    form = form_of(DATAS, shape, value)
                    self.assertEqual(form, form_by_value(value))
                    self.assertTrue(is_form(DATAS, shape, form))
                else:
                    caught = self.refused(BadValue, {"value": value}, form_of, DATAS, shape, value)
                    self.assertIs(caught.value, value)

    def test_forms_of_shapes_with_variables(self):
        for shape in (0, ("List", 0), ("Pair", 0, ("List", 1)), ("Work", 0, 1), ("Tree", ("->", 0, 0))):
            for size in range(5):
                for form in forms_listed(DATAS, shape, size):
                    self.assertTrue(is_form(DATAS, shape, form))
            for value in (*OTHERS, *ODD_VALUES, *SHAPES):
                self.assertEqual(is_form(DATAS, shape, value), form_by_rule(shape, value))
        self.assertFalse(is_form(DATAS, ("List", 0), make("Cons", YES, NIL)))
        self.assertFalse(is_form(DATAS, BOOLS, ANY))
        self.assertFalse(is_form(DATAS, BOOLS, make("Cons", YES, ANY)))
        self.assertFalse(is_form(DATAS, INT, 1))

    def test_wrong_makers(self):
        for value in (make("Nil", NIL), make("Cons", YES), make("Cons", YES, NIL, NIL), make("Cons"), make("Leaf"),
                      make("Lost"), make("Cons", NIL, YES), make("Cons", 1, NIL), ("make",), ("make", ["Nil"]), ("make", None),
                      ["make", "Nil"], ("Nil",), make("nil"), make("Cons", YES, make("Cons", YES, None)), make("List", YES)):
            self.assertFalse(is_value(DATAS, BOOLS, value))
            self.assertFalse(is_form(DATAS, BOOLS, value))
            self.refused(BadValue, {"value": value}, form_of, DATAS, BOOLS, value)
        self.assertFalse(is_value((), BOOLS[1], make("Nil")))

    def test_great_values(self):
        for many in (50, 300, 900, 3000):
            value = nest(many)
            self.assertTrue(is_value(DATAS, BOOLS, value))
            self.assertTrue(is_form(DATAS, BOOLS, value))
            form = form_of(DATAS, ("List", INT), nest(many, part=3))
            while form != NIL:
                self.assertEqual(form[:3], ("make", "Cons", ANY))
                form = form[3]
            wrong = nest(many, make("Cons", 5, NIL))
            self.assertFalse(is_value(DATAS, BOOLS, wrong))
            self.assertIs(self.refused_value(wrong), wrong)
            self.assertEqual(str(scheme_of(DATAS, value)), "List Bool")
            self.assertIsNone(scheme_of(DATAS, wrong))
        wide = nest(300, part=nest(3))
        self.assertTrue(is_value(DATAS, ("List", BOOLS), wide))
        self.assertFalse(is_value(DATAS, BOOLS, wide))

    def refused_value(self, value):
        with self.assertRaises(BadValue) as caught:
            form_of(DATAS, BOOLS, value)
        return caught.exception.value

    def test_too_much_is_met(self):
        for datas, shape in too_much_met():
            for value in (*ODD_VALUES, ANY, FUN, 1, make("S0")):
                for function in (is_value, is_form, form_of):
                    self.refused(TooLarge, MET, function, datas, shape, value)
        datas, shape = meeting(200)
        self.assertTrue(is_value(datas, shape, make("S6", FUN)))
        self.assertEqual(form_of(datas, shape, make("S6", FUN)), make("S6", ANY))


class SchemesOfValues(Raises, unittest.TestCase):
    def scheme(self, value):
        found = scheme_of(DATAS, value)
        return None if found is None else str(found)

    def test_schemes(self):
        for value, right in (
            (0, "Int"), (999999, "Int"), (FUN, "a -> b"), (NIL, "List a"), (YES, "Bool"), (make("Cons", 1, NIL), "List Int"),
            (make("Cons", NIL, NIL), "List (List a)"), (make("Cons", FUN, NIL), "List (a -> b)"),
            (make("Both", NIL, NIL), "Pair (List a) (List b)"), (make("Both", 1, YES), "Pair Int Bool"),
            (make("Do", FUN), "Work a b"), (make("Idle", 3, make("Do", FUN)), "Work a b"), (make("Leaf"), "Tree a"),
            (make("Cons", NIL, make("Cons", make("Cons", 1, NIL), NIL)), "List (List Int)"),
            (make("Rosy", 1, make("Cons", make("Rosy", 2, NIL), NIL)), "Rose Int"),
            (make("Cons", 1, make("Cons", NIL, NIL)), None), (make("Rosy", 1, make("Cons", make("Rosy", YES, NIL), NIL)), None),
            (make("Do", 1), None), (make("Idle", YES, make("Do", FUN)), None), (make("Cons", 1, 1), None),
        ):
            self.assertEqual(self.scheme(value), right, value)

    def test_no_values(self):
        for value in (*ODD_VALUES, 1000000, -1, True, ANY, NIL[1:], make("Lost"), make("Nil", NIL), make("Cons", 1), make("Cons"),
                      ("fun", "x"), ["fun"], make("Cons", True, NIL), make("Cons", None, NIL), make("Cons", ANY, NIL),
                      number(1), ("make",), ("make", ["Nil"]), make("Both", FUN, ("fun", 1))):
            self.assertIsNone(scheme_of(DATAS, value), value)

    def test_a_parameter_that_occurs_in_no_part_and_in_several(self):
        datas = (LISTS, ("Box", 2, (("Empty",), ("Both", 1, 1), ("Two", ("->", 0, 1), 1))), ("Own", 1, (("Last", 0),
                 ("More", 0, ("Own", 0)))))
        for value, right in ((make("Empty"), "Box a b"), (make("Both", 1, 2), "Box a Int"), (make("Both", 1, YES), None),
                             (make("Both", NIL, make("Cons", 1, NIL)), "Box a (List Int)"), (make("Two", FUN, 1), "Box a Int"),
                             (make("More", FUN, make("Last", FUN)), "Own (a -> b)"), (make("More", 1, make("Last", NIL)), None)):
            found = scheme_of(datas, value)
            self.assertEqual(None if found is None else str(found), right)

    def test_the_shapes_of_the_scheme(self):
        source = random.Random(72)
        shapes = [*SHAPES, ("List", ("List", INT)), ("Pair", INT, INT), ("Pair", BOOLS, INT), ("Work", BOOL, BOOL),
                  ("List", ("->", INT, BOOL)), ("Rose", INT), ("Tree", INT)]
        values = [random_value(source, shape, 3) for shape in shapes for _ in range(15)]
        for value in [*values, *OTHERS]:
            scheme = scheme_of(DATAS, value)
            for shape in shapes:
                self.assertEqual(is_value(DATAS, shape, value), scheme is not None and shape in scheme)

    def test_sizes(self):
        def both(many):
            """A value whose shape has just so many nodes, an odd number, and few levels."""
            if many == 1:
                return 1
            left = (many - 1) // 2
            left -= 1 - left % 2
            return make("Both", both(left), both(many - 1 - left))

        self.assertEqual(count_nodes(scheme_of(DATAS, both(199)).shape), 199)
        self.assertEqual(count_nodes(scheme_of(DATAS, make("Cons", both(199), NIL)).shape), 200)
        self.refused(TooLarge, {"limit": 200}, scheme_of, DATAS, both(201))
        self.refused(TooLarge, {"limit": 200}, scheme_of, DATAS, make("Both", FUN, both(197)))
        self.assertEqual(count_nodes(scheme_of(DATAS, make("Both", FUN, both(195))).shape), 199)
        # 199 nodes and one for a list more, or two.
        self.refused(TooLarge, {"limit": 200}, scheme_of, DATAS, make("Cons", make("Cons", both(199), NIL), NIL))
        self.assertIsNone(scheme_of(DATAS, make("Both", both(201), make("Cons", 1, make("Cons", NIL, NIL)))))
        self.assertIsNone(scheme_of(DATAS, make("Both", both(201), True)))

    def test_levels(self):
        for many in (28, 29, 30):
            value = 1
            for _ in range(many):
                value = make("Cons", value, NIL)
            if many <= 29:
                self.assertEqual(scheme_of(DATAS, value), Scheme(deep_lists(many)))
            else:
                self.refused(TooLarge, {"limit": 200}, scheme_of, DATAS, value)
                self.assertIsNone(scheme_of(DATAS, make("Cons", value, make("Cons", 1, NIL))))

    def test_many_fresh_variables(self):
        value = NIL
        for _ in range(300):
            value = make("Cons", make("Both", NIL, FUN), value)
        self.assertEqual(str(scheme_of(DATAS, value)), "List (Pair (List a) (b -> c))")
        doubling = 1
        for _ in range(40):
            doubling = make("Both", doubling, NIL)
        self.refused(TooLarge, {"limit": 200}, scheme_of, DATAS, doubling)
        datas = (("Twice", 1, (("One", INT), ("Deep", ("->", 0, 0), ("Twice", 0)))),)
        self.assertEqual(str(scheme_of(datas, make("Deep", FUN, make("One", 1)))), "Twice a")

    def test_a_shape_that_would_be_within_itself(self):
        datas = (("Own", 2, (("Mk", ("->", 0, 1), ("Own", 0, 1)), ("End", 0, 1))), LISTS)
        same = (("Same", 1, (("Eq", 0, 0),)), LISTS)
        self.assertEqual(str(scheme_of(datas, make("Mk", FUN, make("End", 1, NIL)))), "Own Int (List a)")
        self.assertEqual(str(scheme_of(same, make("Eq", NIL, make("Cons", NIL, NIL)))), "Same (List (List a))")


if __name__ == "__main__":
    unittest.main()
