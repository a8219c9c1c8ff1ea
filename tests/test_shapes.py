import random
import unittest
from itertools import product

from samples import BOOL, INT, ODD_VALUES, Raises, boxes, broad, doubling_shapes, listed
from shapelang.errors import TooLarge
from shapelang.shapes import common, count_nodes, instance_by, is_shape, meeting, normal, put_in, variables_of

SMALL_SHAPES = [0, 1, 2, INT, BOOL, ("Box", 0), ("Box", 1), ("Box", INT), ("->", 0, 0), ("->", 0, 1),
                ("->", 1, INT), ("->", INT, INT), ("->", INT, BOOL), ("Pair", 0, ("Box", 0)), ("Pair", 0, 1),
                ("Pair", 1, 1), ("Pair", ("Box", 1), 1), ("Pair", INT, BOOL), ("Pair", 0), ("->", ("->", 0, 1), 0)]


def random_shape(source, depth, variables=4):
    if depth == 0 or source.random() < 0.35:
        return source.choice([*range(variables), INT])
    name, parts = source.choice([("Box", 1), ("Pair", 2), ("->", 2), ("Pair", 1)])
    return (name, *[random_shape(source, depth - 1, variables) for _ in range(parts)])


def replaced(shape, table):
    if isinstance(shape, int):
        return table[shape]
    return (shape[0], *[replaced(part, table) for part in shape[1:]])


class IsShape(unittest.TestCase):
    def test_example(self):
        found = [is_shape(("->", 0, ("Int",))), is_shape(("->", 0)), is_shape(True), is_shape(("int",))]
        self.assertEqual(found, [True, False, False, False])

    def test_gives_truths(self):
        self.assertIs(is_shape(0), True)
        self.assertIs(is_shape(None), False)

    def test_nodes(self):
        for nodes in (1, 2, 3, 4, 5, 199, 200, 201, 202, 400):
            shape = broad(nodes)
            self.assertEqual(count_nodes(shape), nodes)
            self.assertEqual(is_shape(shape), nodes <= 200)

    def test_levels(self):
        for levels in (1, 2, 29, 30, 31, 32, 59):
            self.assertEqual(is_shape(boxes(levels - 1, 5)), levels <= 30)
            for inner in (INT, BOOL, ("Unit",), ("A1",)):
                self.assertEqual(is_shape(boxes(levels - 1, inner)), levels <= 30)
            for inner in (("->", 0, 0), ("Pair", INT, ("Unit",)), ("Box", ("Unit",))):
                self.assertEqual(is_shape(boxes(levels - 1, inner)), levels <= 29)

    def test_innermost_parts(self):
        """Int and Bool are looked at sooner than other tuples."""
        for inner, right in ((INT, True), (BOOL, True), (("int",), False), (("Int", True), False), ((), False), ((True,), False), (("Bool", 0), True), (("Int", INT), True)):
            for around in (lambda part: part, lambda part: ("Box", part), lambda part: ("Pair", INT, part), lambda part: ("->", part, BOOL)):
                self.assertEqual(is_shape(around(inner)), right, inner)

    def test_variables(self):
        for value, right in [(0, True), (1, True), (199, True), (200, False), (-1, False), (True, False),
                             (False, False), (10 ** 80, False), (-10 ** 80, False)]:
            self.assertEqual(is_shape(value), right)
            self.assertEqual(is_shape(("Box", value)), right)

    def test_names(self):
        for name in ("A", "Z", "Az09", "Abcdefgh", "A1234567", "ZZZZZZZZ"):
            self.assertTrue(is_shape((name,)), name)
        for name in ("", "Abcdefghi", "a", "aB", "1A", "_A", " A", "A ", "A_", "A-", "A\n", "->>", "-", ">", "@", "[",
                     "A[", "A`", "A{", "A@", "A/", "A:", None, 1, True, ("A",), ["A"], b"A"):
            self.assertFalse(is_shape((name,)), name)
            self.assertFalse(is_shape((name, 0, 0)), name)

    def test_parts(self):
        for many in range(6):
            self.assertEqual(is_shape(("A", *range(many))), many <= 3)
            self.assertEqual(is_shape(("->", *range(many))), many == 2)

    def test_other_values(self):
        for value in ODD_VALUES:
            self.assertFalse(is_shape(value), value)
            self.assertFalse(is_shape(("Box", value)), value)

    def test_nested_values(self):
        self.assertFalse(is_shape(listed(0, 60)))
        self.assertFalse(is_shape(boxes(20, listed(0, 30))))
        self.assertFalse(is_shape(tuple(range(2000))))
        self.assertFalse(is_shape(("Box", *[("Box",)] * 1900)))
        self.assertFalse(is_shape({"a": ("Int",)}))
        empty = ()
        for _ in range(59):
            empty = (empty,)
        self.assertFalse(is_shape(empty))


class Parts(unittest.TestCase):
    def test_example(self):
        found = [variables_of(("->", 5, ("Pair", 2, 5))), count_nodes(("->", 5, ("Pair", 2, 5)))]
        self.assertEqual(found, [(5, 2), 5])

    def test_variables_in_order(self):
        self.assertEqual(variables_of(("T", ("Box", 9), ("Pair", 3, 9), ("->", 0, 3))), (9, 3, 0))
        self.assertEqual(variables_of(7), (7,))
        self.assertEqual(variables_of(("T", INT, BOOL, ("U",))), ())

    def test_nodes(self):
        self.assertEqual([count_nodes(shape) for shape in (7, INT, ("Box", INT), ("T", 0, 0, 0))], [1, 1, 2, 4])


class PutIn(Raises, unittest.TestCase):
    def test_example(self):
        self.assertEqual(put_in(("Pair", 0, 2), ("Int",), 7), ("Pair", ("Int",), 2))

    def test_all_at_once(self):
        self.assertEqual(put_in(("->", 0, ("Pair", 1, 2)), ("Box", 1), ("Pair", 2, 0), 0),
                         ("->", ("Box", 1), ("Pair", ("Pair", 2, 0), 0)))

    def test_fewer_and_more_shapes(self):
        self.assertEqual(put_in(("T", 0, 1, 2)), ("T", 0, 1, 2))
        self.assertEqual(put_in(("T", 0, 1, 2), 5), ("T", 5, 1, 2))
        self.assertEqual(put_in(("Box", 1), INT, BOOL, INT, ("Box", 0)), ("Box", BOOL))
        self.assertEqual(put_in(INT, BOOL), INT)

    def test_nodes_of_the_result(self):
        self.assertEqual(count_nodes(put_in(("Pair", 0, 1), broad(100), broad(99))), 200)
        self.refused(TooLarge, {"limit": 200}, put_in, ("Pair", 0, 1), broad(100), broad(100))
        self.refused(TooLarge, {"limit": 200}, put_in, broad(200), ("Box", 0))

    def test_levels_of_the_result(self):
        self.assertEqual(put_in(boxes(10), boxes(19, INT)), boxes(29, INT))
        self.refused(TooLarge, {"limit": 200}, put_in, boxes(10), boxes(20, INT))

    def test_changes_nothing(self):
        shape = ("Pair", 0, ("Box", 1))
        self.assertEqual(put_in(shape, 1, 0), put_in(shape, 1, 0))
        self.assertEqual(shape, ("Pair", 0, ("Box", 1)))


class Normal(unittest.TestCase):
    def test_example(self):
        self.assertEqual(normal(("->", 5, ("Pair", 2, 5))), ("->", 0, ("Pair", 1, 0)))

    def test_swapped_variables(self):
        self.assertEqual(normal(("T", 1, 0, 2)), ("T", 0, 1, 2))
        self.assertEqual(normal(("T", 2, 1, 2)), ("T", 0, 1, 0))
        self.assertEqual([normal(199), normal(INT), normal(0)], [0, INT, 0])


class InstanceBy(unittest.TestCase):
    def test_example(self):
        found = [instance_by(("->", 0, 0), ("->", 3, 3)), instance_by(("->", 0, 0), ("->", 1, 2))]
        self.assertEqual(found, [(3,), None])

    def test_nothing_to_replace(self):
        self.assertEqual(instance_by(("Box", INT), ("Box", INT)), ())
        self.assertIsNone(instance_by(("Box", INT), ("Box", BOOL)))
        self.assertIsNone(instance_by(("Box", INT), ("Box", 0)))
        self.assertIsNone(instance_by(INT, 0))

    def test_the_same_variables_mean_different_things(self):
        self.assertEqual(instance_by(("Pair", 0, 1), ("Pair", 1, 0)), (1, 0))
        self.assertEqual(instance_by(0, ("Box", 0)), (("Box", 0),))
        self.assertIsNone(instance_by(("Pair", 0, ("Box", 0)), ("Pair", 0, 0)))
        self.assertIsNone(instance_by(("Pair", 0, 0), ("Pair", 0, ("Box", 0))))

    def test_order_of_the_variables(self):
        self.assertEqual(instance_by(("T", 7, 2, ("Box", 7)), ("T", INT, ("Box", 2), ("Box", INT))),
                         (INT, ("Box", 2)))

    def test_other_parts(self):
        self.assertIsNone(instance_by(("Pair", 0), ("Pair", 0, 1)))
        self.assertIsNone(instance_by(("Pair", 0, 1), ("->", 0, 1)))

    def test_agrees_with_put_in(self):
        source = random.Random(4)
        for _ in range(500):
            general, special = normal(random_shape(source, 3)), random_shape(source, 3)
            shapes = instance_by(general, special)
            if shapes is not None:
                self.assertEqual(put_in(general, *shapes), special)
            shapes = tuple(random_shape(source, 2) for _ in variables_of(general))
            self.assertEqual(instance_by(general, put_in(general, *shapes)), shapes)


class Common(unittest.TestCase):
    def test_example(self):
        self.assertEqual(common(("Pair", ("Int",), ("Int",)), ("Pair", 3, 3)), ("Pair", 0, 0))

    def test_unlike_shapes(self):
        for one, other in [(INT, BOOL), (INT, 4), (4, INT), (3, 4), (4, 4), (("Pair", 0), ("Pair", 0, 0))]:
            self.assertEqual(common(one, other), 0)

    def test_the_same_variable_wherever_the_same_parts_meet(self):
        self.assertEqual(common(("T", INT, BOOL, INT), ("T", BOOL, INT, BOOL)), ("T", 0, 1, 0))
        self.assertEqual(common(("T", 0, 0, 1), ("T", 0, 1, 1)), ("T", 0, 1, 2))
        self.assertEqual(common(("Pair", 0, 0), ("Pair", 0, 0)), ("Pair", 0, 0))
        self.assertEqual(common(("Pair", ("Box", 0), ("Box", 0)), ("Pair", 1, ("Box", 1))), ("Pair", 0, ("Box", 1)))

    def test_great_shapes(self):
        self.assertEqual(common(broad(200), broad(200)), broad(200))
        self.assertEqual(common(boxes(29, 4), boxes(29, INT)), boxes(29, 0))

    def test_it_is_the_least_general_pattern(self):
        patterns = [normal(shape) for shape in SMALL_SHAPES]
        for one, other in product(SMALL_SHAPES, repeat=2):
            found = common(one, other)
            self.assertEqual(found, normal(found))
            self.assertIsNotNone(instance_by(found, one))
            self.assertIsNotNone(instance_by(found, other))
            for pattern in patterns:
                if instance_by(pattern, one) is not None and instance_by(pattern, other) is not None:
                    self.assertIsNotNone(instance_by(pattern, found), (one, other, pattern))


class Meeting(Raises, unittest.TestCase):
    def test_example(self):
        self.assertEqual(meeting(("->", 0, 0), ("->", 0, ("Int",))), ("->", ("Int",), ("Int",)))
        self.assertIsNone(meeting(("Pair", 0, ("Box", 0)), ("Pair", 0, 0)))

    def test_the_same_variables_in_both_are_different_ones(self):
        self.assertEqual(meeting(("Pair", 0, INT), ("Pair", BOOL, 0)), ("Pair", BOOL, INT))
        self.assertEqual(meeting(0, ("Box", 0)), ("Box", 0))
        self.assertEqual(meeting(("Pair", 0, 1), ("Pair", 1, 0)), ("Pair", 0, 1))
        self.assertEqual(meeting(("Pair", 199, 0), ("Pair", 0, 199)), ("Pair", 0, 1))

    def test_none(self):
        self.assertIsNone(meeting(INT, BOOL))
        self.assertIsNone(meeting(("Pair", 0), ("Pair", 0, 1)))
        self.assertIsNone(meeting(("T", 0, 1, ("Box", 0)), ("T", 0, 0, 0)))

    def test_nodes(self):
        one = ("Pair", ("Pair", 0, 0), ("Box", 0))
        self.assertEqual(count_nodes(meeting(one, ("Pair", ("Pair", broad(65), 1), 2))), 198)
        other = ("Pair", ("T", 0, 0, 1), 1)
        self.assertEqual(count_nodes(meeting(other, ("Pair", ("T", broad(50), 1, broad(48)), 2))), 198)
        two = ("T", 0, 0, 1)
        self.assertEqual(count_nodes(meeting(two, ("T", broad(80), 1, broad(39)))), 200)
        self.refused(TooLarge, {"limit": 200}, meeting, two, ("T", broad(80), 1, broad(40)))

    def test_levels(self):
        self.assertEqual(meeting(("Pair", boxes(10), 0), ("Pair", 1, boxes(18, INT))),
                         ("Pair", boxes(28, INT), boxes(18, INT)))
        self.refused(TooLarge, {"limit": 200}, meeting, ("Pair", boxes(10), 0), ("Pair", 1, boxes(19, INT)))

    def test_a_meeting_of_millions_of_nodes(self):
        one, other = doubling_shapes(27)
        self.assertTrue(is_shape(one) and is_shape(other))
        self.refused(TooLarge, {"limit": 200}, meeting, one, other)
        self.assertIsNone(meeting(("Pair", one, INT), ("Pair", other, BOOL)))

    def test_it_is_the_most_general_instance_of_both(self):
        for one, other in product(SMALL_SHAPES, repeat=2):
            found = meeting(one, other)
            self.assertEqual(found, meeting(other, one))
            both = [shape for shape in SMALL_SHAPES
                    if instance_by(one, shape) is not None and instance_by(other, shape) is not None]
            if found is None:
                self.assertEqual(both, [])
                continue
            self.assertEqual(found, normal(found))
            self.assertIsNotNone(instance_by(one, found))
            self.assertIsNotNone(instance_by(other, found))
            for shape in both:
                self.assertIsNotNone(instance_by(found, shape))

    def test_shapes_with_a_common_instance_meet(self):
        source = random.Random(6)
        for _ in range(300):
            one, other = random_shape(source, 3), random_shape(source, 3)
            special = replaced(one, [random_shape(source, 1) for _ in range(4)])
            self.assertEqual(meeting(one, special), normal(special))
            pattern = common(one, other)
            self.assertEqual(meeting(pattern, one), normal(one))
            self.assertEqual(meeting(other, pattern), normal(other))


if __name__ == "__main__":
    unittest.main()
