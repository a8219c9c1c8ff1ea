import random
import unittest

from makes import (BOOLS, DATAS, LISTS, SMALL_DATAS, all_met, arrows, chain_datas, deep_lists, forms_listed, make, meeting,
                   too_much_met)
from samples import BOOL, INT, ODD_VALUES, Raises
from shapelang.datas import empty_holds, empty_paper, is_known, least_form, makers_of, parts_of
from shapelang.errors import HasValues, NoMaker, NoValue, TooLarge
from shapelang.programs import datas_error
from shapelang.shapes import count_nodes

MET = {"limit": 200}
FORM = {"limit": 500}
VOID = ("Void",)
LIST_VOID = ("List", VOID)
EMPTY = (
    ("Void", 0, ()), ("No", 1, (("No1", 0, VOID), ("No2", ("No", 0)))), ("Two", 2, (("Left", 0), ("Right", 1))),
    ("Stream", 1, (("Next", 0, ("Stream", 0)),)), LISTS, ("Rose", 1, (("Rosy", 0, ("List", ("Rose", 0))),)),
)


class Known(unittest.TestCase):
    def test_known_shapes(self):
        for shape in (0, 199, INT, BOOL, BOOLS, ("List", ("Pair", 3, ("->", 0, INT))), VOID, ("->", 5, 5)):
            self.assertTrue(is_known(DATAS, shape))
        for shape in (("List",), ("List", 0, 0), ("Pair", 0), ("Void", 0), ("Int", 0), ("Bool", INT), ("Lost",),
                      ("Nil",), ("->", 0, ("Lost",)), ("List", ("List",)), ("->", 0, 0, 0), 200, -1):
            self.assertFalse(is_known(DATAS, shape))
        self.assertFalse(is_known((), BOOLS))
        self.assertTrue(is_known((), BOOL))

    def test_any_value(self):
        for value in (*ODD_VALUES, ["List", 0], ("List", None), ("List", True), ("List", [0]), (["List"], 0), ("->", True, 0)):
            self.assertFalse(is_known(DATAS, value), value)

    def test_it_never_raises(self):
        for many in (28, 29, 30):
            self.assertEqual(is_known(DATAS, deep_lists(many)), many <= 29)
        for datas, shape in (meeting(200), *too_much_met()):
            self.assertTrue(is_known(datas, shape))


class Makers(Raises, unittest.TestCase):
    def test_makers_of(self):
        for shape, names in ((BOOL, ("False", "True")), (BOOLS, ("Nil", "Cons")), (VOID, ()), (INT, ()), (3, ()),
                             (("->", BOOL, BOOL), ()), (("Work", 0, 1), ("Do", "Idle")), (("Pair", 0, 0), ("Both",))):
            self.assertEqual(makers_of(DATAS, shape), names)
        self.assertEqual(makers_of((), BOOL), ("False", "True"))

    def test_parts_of(self):
        for shape, name, parts in (
            (BOOL, "True", ()), (BOOLS, "Nil", ()), (BOOLS, "Cons", (BOOL, BOOLS)), (("List", 7), "Cons", (7, ("List", 7))),
            (("Pair", 1, 0), "Both", (1, 0)), (("Pair", INT, 0), "Both", (INT, 0)),
            (("Work", 1, ("List", 0)), "Do", (("->", 1, ("List", ("List", 0))),)),
            (("Work", 1, 2), "Idle", (INT, ("Work", 1, 2))), (("Rose", BOOL), "Rosy", (BOOL, ("List", ("Rose", BOOL)))),
        ):
            self.assertEqual(parts_of(DATAS, shape, name), parts)

    def test_no_maker(self):
        for shape in (BOOLS, INT, 0, ("->", 0, 0), VOID, BOOL):
            for name in (*ODD_VALUES, "List", "Lost", "cons", "Both", ("Cons",), ["Cons"], 0):
                caught = self.refused(NoMaker, {"name": name}, parts_of, DATAS, shape, name)
                self.assertIs(caught.name, name)
        self.refused(NoMaker, {"name": "Nil"}, parts_of, DATAS, BOOL, "Nil")
        self.refused(NoMaker, {"name": "True"}, parts_of, DATAS, BOOLS, "True")


class Met(Raises, unittest.TestCase):
    """The law of point 14, for the functions of this module."""

    def test_two_hundred_shapes(self):
        for many in (197, 199, 200, 201):
            datas, shape = meeting(many)
            self.assertIsNone(datas_error(datas))
            self.assertEqual(len(all_met(datas, shape)), many)
        datas, shape = meeting(200)
        self.assertEqual(makers_of(datas, shape), ("S0", "S3", "S6"))
        self.assertEqual(parts_of(datas, shape, "S6"), tuple(("->", BOOL, arrows(at)) for at in (2,)))
        self.assertEqual(least_form(datas, shape), make("S6", ("any",)))
        self.refused(NoMaker, {"name": None}, parts_of, datas, shape, None)
        self.refused(HasValues, {}, empty_paper, datas, shape)
        self.assertFalse(empty_holds(datas, shape, (shape,)))

    def test_too_much_is_met(self):
        for datas, shape in too_much_met():
            self.assertIsNone(datas_error(datas))
            for function in (makers_of, least_form, empty_paper):
                self.refused(TooLarge, MET, function, datas, shape)
            for value in (*ODD_VALUES, (shape,), "M"):
                self.refused(TooLarge, MET, parts_of, datas, shape, value)
                self.refused(TooLarge, MET, empty_holds, datas, shape, value)

    def test_levels_and_nodes(self):
        datas = (LISTS, ("Own", 1, (("Make", ("List", ("List", 0))),)), ("Twice", 1, (("Mk", ("->", 0, 0)),)))
        self.assertEqual(parts_of(datas, ("Own", deep_lists(27)), "Make"), (deep_lists(29),))
        self.refused(TooLarge, MET, makers_of, datas, ("Own", deep_lists(28)))
        self.assertEqual(makers_of(datas, ("->", 0, ("Own", deep_lists(27)))), ())
        for nodes in (99, 101):
            shape = ("->", even(49), even(nodes - 50))
            if nodes == 99:
                self.assertEqual(count_nodes(parts_of(datas, ("Twice", shape), "Mk")[0]), 199)
            else:
                self.refused(TooLarge, MET, parts_of, datas, ("Twice", shape), "Mk")
        datas = (("Box", 1, ()), ("Thrice", 1, (("Mk", ("->", ("->", 0, 0), ("Box", 0))),)))
        self.assertEqual(makers_of(datas, ("Thrice", even(65))), ("Mk",))
        self.refused(TooLarge, MET, makers_of, datas, ("Thrice", even(67)))
        # Twice a shape of 99 nodes and one, two or three more.
        for more, right in ((("->", 0, 0), True), (("Box", ("->", 0, 0)), True), (("Box", ("Box", ("->", 0, 0))), False)):
            datas = (("Box", 1, ()), ("Twice", 1, (("Mk", more),)))
            if right:
                self.assertEqual(makers_of(datas, ("Twice", even(99))), ("Mk",))
            else:
                self.refused(TooLarge, MET, makers_of, datas, ("Twice", even(99)))


def even(nodes):
    """A shape of functions with just so many nodes, an odd number, and few levels."""
    if nodes == 1:
        return INT
    left = (nodes - 1) // 2
    left -= 1 - left % 2
    return ("->", even(left), even(nodes - 1 - left))


def shapes_for(datas):
    """Some known shapes of each of these datas."""
    inner = [INT, BOOL, 0, ("->", 0, INT)]
    inner += [(name, *[INT] * many) for name, many, _ in datas] + [(name, *[VOID] * many) for name, many, _ in datas]
    inner = [shape for shape in inner if is_known(datas, shape)]
    more = [(name, *[shape] * many) for name, many, _ in datas for shape in inner]
    return [*inner, *[shape for shape in more if is_known(datas, shape)]]


class LeastForms(Raises, unittest.TestCase):
    def test_the_first_one_listed(self):
        for datas in (DATAS, SMALL_DATAS, EMPTY):
            for shape in shapes_for(datas):
                first = [form for size in range(6) for form in forms_listed(datas, shape, size)][:1]
                if first:
                    self.assertEqual(least_form(datas, shape), first[0])
                    self.refused(HasValues, {}, empty_paper, datas, shape)
                else:
                    self.refused(NoValue, {"value": shape}, least_form, datas, shape)
                    self.assertTrue(empty_holds(datas, shape, empty_paper(datas, shape)))

    def test_the_first_maker_of_the_least_size(self):
        datas = (("A", 0, (("A1", ("A",)), ("A2", BOOL), ("A3", INT), ("A4",))), ("B", 0, (("B1", ("A",)), ("B2", BOOL))),
                 ("C", 1, (("C1", 0, ("A",)), ("C2", ("A",), 0), ("C3", ("B",)))))
        self.assertEqual(least_form(datas, ("A",)), make("A3", ("any",)))
        self.assertEqual(least_form(datas, ("B",)), make("B1", make("A3", ("any",))))
        self.assertEqual(least_form(datas, ("C", INT)), make("C1", ("any",), make("A3", ("any",))))
        self.assertEqual(least_form(datas, ("C", BOOL)), make("C1", make("False"), make("A3", ("any",))))
        self.assertEqual(least_form(datas, ("C", ("B",))), make("C3", make("B1", make("A3", ("any",)))))

    def test_no_value(self):
        for shape in (VOID, ("Pair", 0, VOID), ("Stream", 0), ("Rose", VOID)):
            datas = EMPTY[:4] + (LISTS, ("Pair", 2, (("Both", 0, 1),))) if shape[0] == "Pair" else EMPTY
            caught = self.refused(NoValue, {"value": shape}, least_form, datas, shape)
            self.assertIs(caught.value, shape)

    def test_great_forms(self):
        datas = tuple((f"T{at}", 1, ((f"N{at}", 0, 0),)) for at in range(5)) + (("V", 0, ()),)
        for many in (3, 7, 8, 29):
            shape, empty = BOOL, ("V",)
            for at in range(many):
                shape, empty = (f"T{at % 5}", shape), (f"T{at % 5}", empty)
            # 2 ** (many + 1) - 1 makers: 255 for seven.
            if many <= 7:
                self.assertEqual(size(least_form(datas, shape)), 2 ** (many + 1) - 1)
            else:
                self.refused(TooLarge, FORM, least_form, datas, shape)
            self.refused(HasValues, {}, empty_paper, datas, shape)
            self.refused(NoValue, {"value": empty}, least_form, datas, empty)

    def test_five_hundred_makers(self):
        for rest, right in ((244, True), (245, False)):
            # A full tree of 255 makers beside a chain of so many.
            datas = (("T", 1, (("N", 0, 0),)), ("Chain", 1, (("Link", 0),)), ("Both", 2, (("And", 0, 1),)))
            tree = BOOL
            for _ in range(7):
                tree = ("T", tree)
            shape = ("Both", tree, numbers(rest))
            if right:
                self.assertEqual(size(least_form(datas, shape)), 1 + 255 + 244)
            else:
                self.refused(TooLarge, FORM, least_form, datas, shape)


def numbers(many):
    """A shape of T, Chain and Both whose least form has just so many makers."""
    if many == 1:
        return BOOL
    if many % 2:
        return ("T", numbers(many // 2))
    return ("Chain", numbers(many - 1))


def size(form):
    return 0 if form == ("any",) else 1 + sum(size(part) for part in form[2:])


class Papers(Raises, unittest.TestCase):
    def holds(self, shape, *value):
        return empty_holds(EMPTY, shape, value)

    def test_papers(self):
        for shape in shapes_for(EMPTY):
            if not [form for number in range(6) for form in forms_listed(EMPTY, shape, number)]:
                paper = empty_paper(EMPTY, shape)
                self.assertEqual(paper[0], shape)
                self.assertEqual(paper, empty_paper(EMPTY, shape))
                self.assertTrue(empty_holds(EMPTY, shape, paper))
                self.assertFalse(empty_holds(EMPTY, shape, list(paper)))
                for at in range(1, len(paper)):
                    self.assertFalse(empty_holds(EMPTY, shape, paper[at:] + paper[:at]))
                self.assertFalse(empty_holds(EMPTY, shape, paper + paper[:1]))
                self.assertFalse(empty_holds(EMPTY, shape, paper + paper[-1:]))

    def test_papers_of_others(self):
        two = ("Two", VOID, ("Stream", 3))
        self.assertTrue(self.holds(VOID, VOID))
        self.assertTrue(self.holds(two, two, VOID, ("Stream", 3)))
        self.assertTrue(self.holds(two, two, ("Stream", 3), VOID))
        self.assertTrue(self.holds(two, two, ("Stream", 3), VOID, ("No", INT), ("Stream", ("List", VOID))))
        self.assertTrue(self.holds(("Stream", 0), ("Stream", 0)))
        self.assertTrue(self.holds(("No", 0), ("No", 0), VOID))
        for value in ((two,), (two, VOID), (two, ("Stream", 3)), (VOID, two, ("Stream", 3)), (two, VOID, ("Stream", 2)),
                      (two, VOID, ("Stream", 3), two), (two, VOID, VOID, ("Stream", 3)), (two, VOID, ("Stream", 3), BOOL),
                      (two, VOID, ("Stream", 3), 0), (two, VOID, ("Stream", 3), INT), (two, VOID, ("Stream", 3), ("->", 0, 0)),
                      (two, VOID, ("Stream", 3), ("Lost",)), (two, VOID, ("Stream", 3), ("Void", 0)),
                      (two, VOID, ("Stream", 3), ("List", VOID)), (two, VOID, ("Stream", 3), None), ()):
            self.assertFalse(self.holds(two, *value), value)
        self.assertFalse(self.holds(("No", 0), ("No", 0)))
        self.assertFalse(self.holds(("Stream", 1), ("Stream", True)))
        self.assertFalse(self.holds(VOID, ("Stream", 0)))
        for shape in (INT, 0, ("->", VOID, VOID), BOOL, LIST_VOID):
            self.assertFalse(self.holds(shape, shape))
            self.assertFalse(self.holds(shape, shape, VOID))

    def test_shapes_beyond_the_bounds(self):
        great = ("Stream", deep_lists(50))
        self.assertTrue(self.holds(VOID, VOID, great))
        self.assertFalse(self.holds(VOID, VOID, ("No", deep_lists(50)), ("List", great)))
        wide = ("Two", ("Stream", 0), ("Stream", 1))
        for _ in range(7):
            wide = ("Two", wide, wide)
        self.assertFalse(self.holds(VOID, VOID, wide))
        self.assertTrue(self.holds(VOID, VOID, wide, *parts_of_wide(wide)))

    def test_any_value(self):
        for shape in (VOID, ("Stream", 0), BOOL):
            for value in [*ODD_VALUES, None, [shape], shape]:
                self.assertFalse(empty_holds(EMPTY, shape, value))

    def test_data_within_the_arguments_of_others(self):
        rose = ("Rose", ("Two", VOID, VOID))
        paper = empty_paper(EMPTY, rose)
        self.assertTrue(empty_holds(EMPTY, rose, paper))
        self.assertTrue(empty_holds(EMPTY, rose, (rose, ("Two", VOID, VOID), VOID)))
        self.assertEqual(least_form(EMPTY, ("Rose", BOOL)), make("Rosy", make("False"), make("Nil")))
        source = random.Random(3)
        for _ in range(20):
            shape = ("Rose", source.choice([INT, BOOL, 0, ("Two", VOID, INT), ("List", VOID), ("List", ("Rose", VOID))]))
            self.refused(HasValues, {}, empty_paper, EMPTY, shape)


def parts_of_wide(wide):
    """The shapes that the one of a paper has within."""
    found = []
    while wide[0] == "Two":
        found += [part for at, part in enumerate(wide[1:]) if part not in wide[1:1 + at]]
        wide = wide[1]
    return found


if __name__ == "__main__":
    unittest.main()
