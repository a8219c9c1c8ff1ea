import unittest

from samples import BOOL, INT, ODD_VALUES, Raises, boxes, broad, doubling_shapes
from shapelang.errors import BadCount, BadShape, BadText, NoMeeting, TooLarge
from shapelang.schemes import Scheme
from shapelang.shapes import normal

SHAPES = [0, INT, ("->", 0, 0), ("->", 5, 1), ("List", ("->", 3, INT)), ("T", 2, 1, 2), ("Pair", 0, ("Box", 0))]


class Made(Raises, unittest.TestCase):
    def test_examples(self):
        self.assertEqual(str(Scheme(("->", 5, ("List", 5)))), "a -> List a")
        self.refused(BadShape, {"value": "Int"}, Scheme, "Int")
        self.assertEqual([Scheme(("->", 5, 5)).shape, Scheme.read("List (a -> Int)").shape],
                         [("->", 0, 0), ("List", ("->", 0, ("Int",)))])
        self.assertEqual([len(Scheme(("->", 0, 1))), Scheme(("->", 5, 1)) == Scheme(("->", 0, 1)), str(Scheme(3))],
                         [2, True, "a"])

    def test_values_that_are_no_shapes(self):
        for value in [*ODD_VALUES, broad(201), boxes(30), 200, "a"]:
            error = self.refused(BadShape, {"value": value}, Scheme, value)
            self.assertIs(error.value, value)
        value = [0]
        error = self.refused(BadShape, {"value": value}, Scheme, value)
        value.append(1)
        self.assertEqual(error.value, [0, 1])

    def test_the_shape_is_in_normal_form(self):
        for shape in [*SHAPES, broad(200), boxes(29, 7)]:
            self.assertEqual(Scheme(shape).shape, normal(shape))

    def test_schemes_never_change(self):
        scheme = Scheme(("->", 0, 1))
        with self.assertRaises(AttributeError):
            scheme.shape = 0
        self.assertEqual(scheme.shape, ("->", 0, 1))

    def test_len(self):
        self.assertEqual([len(Scheme(shape)) for shape in SHAPES], [1, 0, 1, 2, 1, 2, 1])

    def test_equal_schemes(self):
        for one in SHAPES:
            for other in SHAPES:
                self.assertEqual(Scheme(one) == Scheme(other), one == other)
                self.assertEqual(Scheme(one) != Scheme(other), one != other)
        self.assertEqual(Scheme(("Pair", 4, 2)), Scheme(("Pair", 1, 199)))
        for other in (INT, ("->", 0, 0), "Int", None, 0, [], Scheme):
            self.assertFalse(Scheme(INT) == other)
            self.assertFalse(other == Scheme(("->", 0, 0)))
            self.assertTrue(Scheme(INT) != other)

    def test_no_loop(self):
        for function in (iter, list, tuple, lambda scheme: [part for part in scheme]):
            with self.assertRaises(TypeError):
                function(Scheme(("->", 0, 1)))


class Read(Raises, unittest.TestCase):
    def test_there_and_back(self):
        for shape in [*SHAPES, broad(200), boxes(29), ("->", ("->", 0, 1), ("->", 2, INT))]:
            scheme = Scheme(shape)
            self.assertEqual(Scheme.read(str(scheme)), scheme)
            self.assertEqual(str(Scheme.read(str(scheme))), str(scheme))
        self.assertEqual(str(Scheme.read(" z1->(a)")), "a -> b")

    def test_errors(self):
        for value in (None, 7, 0, ("Int",), ["a"], b"a"):
            self.refused(BadText, {"index": None}, Scheme.read, value)
        self.refused(BadText, {"index": 0}, Scheme.read, "")
        self.refused(BadText, {"index": 2}, Scheme.read, "a -> ")
        self.refused(BadText, {"index": 1}, Scheme.read, "a b")
        self.refused(TooLarge, {"limit": 200}, Scheme.read, "a->" * 30 + "a")


class Called(Raises, unittest.TestCase):
    def test_examples(self):
        scheme = Scheme(("->", 0, ("List", 0)))
        self.assertEqual(scheme((("Int",),)), ("->", ("Int",), ("List", ("Int",))))
        self.refused(BadCount, {"value": 1}, Scheme(("Int",)), (0,))

    def test_all_at_once_in_order(self):
        self.assertEqual(Scheme(("T", 7, 3, ("Box", 7)))((1, ("Box", 0))), ("T", 1, ("Box", 0), ("Box", 1)))
        self.assertEqual(Scheme(INT)(()), INT)
        self.assertEqual(Scheme(4)((9,)), 9)

    def test_errors_in_order(self):
        scheme = Scheme(("Pair", 0, 1))
        for value in (None, [INT, INT], 2, "ab", {"a": 1, "b": 2}, INT[0]):
            self.refused(BadCount, {"value": None}, scheme, value)
        for value in ((), (0,), ("x",), (0, 0, 0), (broad(201), None, None)):
            self.refused(BadCount, {"value": len(value)}, scheme, value)
        for value in [*ODD_VALUES, broad(201)]:
            error = self.refused(BadShape, {"value": value}, scheme, (INT, value))
            self.assertIs(error.value, value)
            error = self.refused(BadShape, {"value": value}, scheme, (value, "later"))
            self.assertIs(error.value, value)
        self.refused(BadShape, {"value": True}, scheme, (broad(200), True))
        self.refused(TooLarge, {"limit": 200}, scheme, (broad(100), broad(100)))
        self.assertEqual(scheme((broad(100), broad(99))), ("Pair", broad(100), broad(99)))
        self.refused(TooLarge, {"limit": 200}, scheme, (0, boxes(29)))
        both = Scheme(("P", 0, 1))
        for levels in range(25, 31):
            for nodes in (1, 5, 90, 199 - levels - 1, 200 - levels):
                arguments = (boxes(levels - 1, ("Unit",)), broad(nodes))
                if levels <= 29 and levels + nodes <= 199:
                    self.assertEqual(both(arguments), ("P", *arguments))
                else:
                    self.refused(TooLarge, {"limit": 200}, both, arguments)
        self.assertEqual(scheme((0, boxes(28))), ("Pair", 0, boxes(28)))


class Within(unittest.TestCase):
    def test_examples(self):
        scheme = Scheme(("->", 0, ("List", 0)))
        self.assertEqual([("->", 4, ("List", 4)) in scheme, ("->", 4, ("List", 3)) in scheme, 0 in scheme],
                         [True, False, False])

    def test_any_value(self):
        for value in [*ODD_VALUES, broad(201), boxes(30), "a", scheme_of_all()]:
            for scheme in (scheme_of_all(), Scheme(INT), Scheme(("->", 0, 1))):
                self.assertIs(value in scheme, False)

    def test_instances(self):
        for shape in [*SHAPES, broad(200), boxes(29), 199]:
            self.assertIn(shape, Scheme(shape))
            self.assertIn(shape, scheme_of_all())
        self.assertIn(("Pair", 1, 0), Scheme(("Pair", 0, 1)))
        self.assertNotIn(("Pair", 0, 1), Scheme(("Pair", 0, 0)))
        self.assertIn(("Pair", 0, 0), Scheme(("Pair", 0, 1)))
        self.assertNotIn(BOOL, Scheme(INT))


def scheme_of_all():
    return Scheme(0)


class Operators(Raises, unittest.TestCase):
    def test_examples(self):
        one, other = Scheme(("->", 0, 0)), Scheme(("->", ("Int",), ("Int",)))
        self.assertEqual([one & other == other, one | other == one, (other | Scheme(("->", ("Int",), ("Bool",)))).shape],
                         [True, True, ("->", ("Int",), 0)])

    def test_instances_of_one_another(self):
        general, special = Scheme(("Pair", 0, 1)), Scheme(("Pair", ("Box", 2), 2))
        for one, other in ((general, special), (special, general)):
            self.assertEqual(one | other, general)
            self.assertEqual(one & other, special)

    def test_the_same_schemes(self):
        for shape in SHAPES:
            self.assertEqual(Scheme(shape) | Scheme(shape), Scheme(shape))
            self.assertEqual(Scheme(shape) & Scheme(shape), Scheme(shape))

    def test_neither_is_an_instance(self):
        one, other = Scheme(("T", INT, 0, 1)), Scheme(("T", 0, BOOL, 0))
        self.assertEqual((one & other).shape, ("T", INT, BOOL, INT))
        self.assertEqual((one | other).shape, ("T", 0, 1, 2))
        self.assertEqual((one.shape, other.shape), (("T", INT, 0, 1), ("T", 0, BOOL, 0)))

    def test_no_meeting(self):
        for one, other in [(INT, BOOL), (("Pair", 0, ("Box", 0)), ("Pair", 0, 0)), (("A", 0), ("A", 0, 1))]:
            self.refused(NoMeeting, {}, lambda: Scheme(one) & Scheme(other))
            self.assertEqual((Scheme(one) | Scheme(other)).shape, ("Pair", 0, 1) if one[0] == "Pair" else 0)

    def test_too_large_meetings(self):
        one, other = doubling_shapes(27)
        self.refused(TooLarge, {"limit": 200}, lambda: Scheme(one) & Scheme(other))
        self.refused(NoMeeting, {}, lambda: Scheme(("Pair", one, INT)) & Scheme(("Pair", other, BOOL)))
        two = Scheme(("T", 0, 0, 1))
        self.assertIsInstance(two & Scheme(("T", broad(80), 1, broad(39))), Scheme)
        self.refused(TooLarge, {"limit": 200}, lambda: two & Scheme(("T", broad(80), 1, broad(40))))


if __name__ == "__main__":
    unittest.main()
