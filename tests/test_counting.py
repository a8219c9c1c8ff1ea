import random
import unittest
from itertools import islice

from makes import (ANY, BOOLS, DATAS, LISTS, NIL, PAIR, SMALL_DATAS, TREES, VOID, YES, forms_listed, make, meeting,
                   too_much_met)
from samples import BOOL, INT, ODD_VALUES, Raises
from shapelang.counting import count_forms, each_form, form_at, index_of
from shapelang.datas import least_form
from shapelang.errors import BadForm, BadSize, NoIndex, TooLarge
from shapelang.values import is_form

MET = {"limit": 200}
WORLD = ("W", 2, (("Zero",), ("One", 0), ("Two", ("W", 0, 1), 1), ("Three", ("W", 0, 1), BOOL, ("W", 0, 1))))
LATER = ("Later", 1, (("Stop", ("List", ("Later", 0))), ("Go", ("Pair", 0, ("Later", 0)))))
MORE = (LISTS, PAIR, TREES, WORLD, LATER, VOID)
CASES = [
    (MORE, shape) for shape in (
        BOOL, INT, 0, ("->", 0, BOOL), BOOLS, ("List", 0), ("List", ("->", 0, 0)), ("Pair", BOOL, BOOLS), ("Tree", BOOL),
        ("W", BOOL, 0), ("W", 0, INT), ("Later", BOOL), ("Later", 3), ("List", ("List", BOOL)), ("Void",), ("List", ("Void",)),
        ("Pair", ("Void",), BOOL), ("Tree", ("Void",)), ("Pair", BOOL, BOOL))
] + [(SMALL_DATAS, ("Endless", BOOL)), (SMALL_DATAS, ("List", ("Endless", INT))), (DATAS, ("Rose", BOOL)), (DATAS, ("Work", 0, 1))]
NO_SIZES = (-1, 41, True, False, None, "1", (1,), [1], {}, 10 ** 70)


def size(form):
    return 0 if form == ANY else 1 + sum(size(part) for part in form[2:])


def chain(many, part=YES):
    form = NIL
    for _ in range(many):
        form = make("Cons", part, form)
    return form


class Counts(Raises, unittest.TestCase):
    def test_all_forms_listed(self):
        for datas, shape in CASES:
            for number in range(7):
                listed = forms_listed(datas, shape, number)
                self.assertEqual(count_forms(datas, shape, number), len(listed))
                found = [form_at(datas, shape, number, index) for index in range(min(len(listed), 150))]
                self.assertEqual(found, list(listed[:150]))
                self.assertEqual([index_of(datas, shape, form) for form in found], list(range(len(found))))
                for index in (-1, len(listed), len(listed) + 1, True, False, None, "0", (0,), [0], 10 ** 75):
                    caught = self.refused(NoIndex, {"index": index}, form_at, datas, shape, number, index)
                    self.assertIs(caught.index, index)

    def test_there_and_back(self):
        source = random.Random(81)
        greatest = 0
        for datas, shape in CASES:
            for number in (8, 13, 20, 31, 39, 40):
                many = count_forms(datas, shape, number)
                greatest = max(greatest, many)
                if many == 0:
                    self.refused(NoIndex, {"index": 0}, form_at, datas, shape, number, 0)
                    continue
                for index in {0, many - 1, source.randrange(many), source.randrange(many), many // 2}:
                    form = form_at(datas, shape, number, index)
                    self.assertTrue(is_form(datas, shape, form))
                    self.assertEqual(size(form), number)
                    self.assertEqual(index_of(datas, shape, form), index)
                self.refused(NoIndex, {"index": many}, form_at, datas, shape, number, many)
        self.assertGreater(greatest, 10 ** 10)

    def test_great_counts(self):
        datas = (("B0", 0, (("A",), ("B",), ("C",), ("D",))), ("B1", 0, (("E", ("B0",)), ("F",), ("G",), ("H",))),
                 ("L", 1, (("End",), ("Nx", 0, ("L", 0)), ("Ny", 0, ("L", 0)), ("Nz", 0, ("L", 0)))),
                 ("T", 1, (("Tip",), ("Fork", 0, ("T", 0), ("T", 0)), ("Twig", ("L", 0), ("T", 0), ("T", 0)), ("Up", ("T", 0)))))
        shape = ("T", ("L", ("B1",)))
        many = count_forms(datas, shape, 40)
        self.assertGreater(many, 10 ** 20)
        for index in (0, 1, many // 7, many - 2, many - 1):
            self.assertEqual(index_of(datas, shape, form_at(datas, shape, 40, index)), index)
        four = ("Four", 0, (("P", ("Four",)), ("Q", ("Four",)), ("R", ("Four",)), ("S",)))
        self.assertEqual(count_forms((four,), ("Four",), 40), 3 ** 39)
        many = ("M", 0, (("P", ("M",), ("M",), ("M",)), ("Q", ("M",), ("M",), ("M",)), ("R", ("M",)), ("S",)))
        self.assertEqual(form_at((many,), ("M",), 40, count_forms((many,), ("M",), 40) - 1)[1], "R")

    def test_catalan_numbers(self):
        found = [count_forms((TREES,), ("Tree", 0), number) for number in range(12)]
        self.assertEqual(found, [0, 1, 0, 1, 0, 2, 0, 5, 0, 14, 0, 42])
        self.assertEqual(count_forms((TREES,), ("Tree", 0), 39), 1767263190)

    def test_sizes(self):
        for value in NO_SIZES:
            for function, *more in ((count_forms,), (form_at, 0), (form_at, None), (form_at, -1)):
                caught = self.refused(BadSize, {"size": value}, function, MORE, BOOLS, value, *more)
                self.assertIs(caught.size, value)
        self.assertEqual(count_forms(MORE, BOOLS, 0), 0)
        self.assertEqual(count_forms(MORE, BOOLS, 40), 0)
        self.assertEqual(count_forms(MORE, BOOLS, 39), 2 ** 19)
        self.assertEqual([count_forms(MORE, INT, number) for number in (0, 1, 40)], [1, 0, 0])

    def test_index_of(self):
        for value in (*ODD_VALUES, make("Cons", 1, NIL), make("Cons", ANY, NIL), ANY, 1, YES, ("fun",), chain(50, ANY)):
            caught = self.refused(BadForm, {"form": value}, index_of, MORE, BOOLS, value)
            self.assertIs(caught.form, value)
        form = chain(19)
        self.assertEqual(index_of(MORE, BOOLS, form), 2 ** 19 - 1)
        self.refused(BadSize, {"size": 41}, index_of, MORE, BOOLS, chain(20))
        self.refused(BadSize, {"size": 41}, index_of, MORE, ("List", 0), chain(40, ANY))
        self.assertEqual(index_of(MORE, ("List", 0), chain(39, ANY)), 0)
        self.refused(BadSize, {"size": 2001}, index_of, MORE, ("List", INT), chain(2000, ANY))
        self.refused(BadForm, {"form": chain(41, INT)}, index_of, MORE, ("List", INT), chain(41, INT))

    def test_too_much_is_met(self):
        for datas, shape in too_much_met():
            for value in (0, 1, -1, None):
                self.refused(TooLarge, MET, count_forms, datas, shape, value)
                self.refused(TooLarge, MET, form_at, datas, shape, value, value)
                self.refused(TooLarge, MET, index_of, datas, shape, value)
                self.refused(TooLarge, MET, lambda: list(islice(each_form(datas, shape, size=value), 1)))
        datas, shape = meeting(200)
        self.assertEqual(count_forms(datas, shape, 1), 1)


class EachForm(Raises, unittest.TestCase):
    def test_in_order(self):
        for datas, shape in CASES:
            listed = [form for number in range(6) for form in forms_listed(datas, shape, number)]
            self.assertEqual(list(islice(each_form(datas, shape), len(listed))), listed)
            if listed:
                self.assertEqual(listed[0], least_form(datas, shape))
            for first in range(6):
                rest = [form for form in listed if size(form) >= first]
                self.assertEqual(list(islice(each_form(datas, shape, size=first), len(rest))), rest)

    def test_up_to_the_last_size(self):
        self.assertEqual(list(each_form(MORE, BOOL)), [make("False"), YES])
        self.assertEqual(list(each_form(MORE, BOOL, size=2)), [])
        self.assertEqual(list(each_form(MORE, INT)), [ANY])
        self.assertEqual(list(each_form(MORE, INT, size=1)), [])
        self.assertEqual(list(each_form(MORE, ("Void",))), [])
        self.assertEqual(list(each_form(MORE, ("List", ("Void",)))), [NIL])
        self.assertEqual([size(form) for form in each_form(MORE, ("List", 0))], list(range(1, 41)))
        self.assertEqual([size(form) for form in each_form(MORE, ("List", 0), size=40)], [40])
        self.assertEqual(len(list(each_form(MORE, ("Pair", BOOL, BOOL)))), 4)

    def test_two_at_once(self):
        one, other = each_form(MORE, BOOLS), each_form(MORE, BOOLS, size=3)
        found = [(next(one), next(other)) for _ in range(6)]
        listed = [form for number in range(6) for form in forms_listed(MORE, BOOLS, number)]
        self.assertEqual(found, list(zip(listed, listed[1:]))[:6])

    def test_the_first_ones_soon(self):
        for datas, shape in CASES:
            for first in (30, 39):
                found = list(islice(each_form(datas, shape, size=first), 5))
                self.assertEqual([size(form) for form in found], sorted(size(form) for form in found))
                for form in found:
                    self.assertEqual(form_at(datas, shape, size(form), index_of(datas, shape, form)), form)

    def test_errors(self):
        for value in NO_SIZES:
            with self.assertRaises(BadSize) as caught:
                next(each_form(MORE, BOOLS, size=value))
            self.assertIs(caught.exception.size, value)


if __name__ == "__main__":
    unittest.main()
