import random
import unittest
from time import perf_counter

from makes import ANY, BOOLS, LISTS, NIL, NO, VOID, YES, forms_listed, make, meeting, too_much_met, word
from samples import BOOL, INT, ODD_VALUES, Raises
from shapelang.errors import BadSize, Idle, NoRow, TooLarge
from shapelang.missing import count_met, idle_rows, is_missing, missing, witness
from shapelang.rows import first_row, rows_error
from shapelang.trees import tree_of
from test_trees import LEAVES, SHAPES, WIDE, WORLD, ends_of, has_values, makers_in, random_rows, wide_rows

MET = {"limit": 200}
TREE = {"limit": 1000}
FORM = {"limit": 500}
R = (NIL, make("Cons", YES, word("r")))
NO_NUMBERS = (-1, 2, True, False, "0", (0,), [0], {}, 10 ** 70)
NO_SIZES = (-1, 41, True, False, None, "1", (1,), [1], {}, 10 ** 70)


def have_common(shape, one, other):
    """Whether some form of the shape is within both outlines or patterns."""
    makers = makers_in(shape)
    if makers is None:
        return True
    if one[0] != "make" and other[0] != "make":
        return has_values(shape)
    for name, parts in makers:
        if all(part[0] != "make" or part[1] == name for part in (one, other)):
            inner = [part[2:] if part[0] == "make" else (ANY,) * len(parts) for part in (one, other)]
            if all(have_common(part, left, right) for part, left, right in zip(parts, *inner)):
                return True
    return False


def outlines_listed(shape, size):
    """All outlines of just this size, in order."""
    if size == 0:
        return [ANY]
    found = []
    for name, parts in makers_in(shape) or []:
        found += [make(name, *inner) for inner in outlines_of_all(parts, size - 1)]
    return found


def outlines_of_all(shapes, size):
    if not shapes:
        return [()] if size == 0 else []
    return [(outline, *rest) for first in range(size + 1) for outline in outlines_listed(shapes[0], first)
            for rest in outlines_of_all(shapes[1:], size - first)]


def is_left_out(shape, rows, outline):
    return have_common(shape, outline, ANY) and not any(have_common(shape, outline, pattern) for pattern in rows)


def samples(seed, many=25, **more):
    source = random.Random(seed)
    return [(shape, random_rows(source, shape, **more)) for shape in SHAPES for _ in range(many)]


class Outlines(Raises, unittest.TestCase):
    def test_some(self):
        both = make("Both", YES, YES), make("Both", NO, NO)
        for shape, rows, outline in (
            (BOOLS, R, make("Cons", NO, ANY)), (("Void",), (), None), (BOOLS, (), ANY), (INT, (), ANY), (INT, (ANY,), None),
            (0, (word("x"),), None), (0, (), ANY), (BOOL, (YES,), NO), (BOOL, (NO, YES), None), (BOOLS, (NIL,), make("Cons", ANY, ANY)),
            (("List", ("Void",)), (NIL,), None), (("List", ("Void",)), (), ANY), (("List", ("Void",)), (make("Cons", ANY, ANY),), ANY),
            (("Pair", BOOL, BOOL), both, make("Both", NO, YES)), (("Pair", BOOL, BOOL), both[::-1], make("Both", NO, YES)),
            (("Pair", BOOL, BOOL), (make("Both", NO, YES), make("Both", YES, ANY)), make("Both", NO, NO)),
            (("Pair", BOOL, BOOL), (make("Both", YES, NO), make("Both", NO, NO)), make("Both", ANY, YES)),
            (("Many", INT), (make("One", ANY),), make("Three", ANY, ANY)), (("Unit",), (make("U"),), None),
        ):
            self.assertEqual(missing(WORLD, shape, rows), outline)
            self.assertEqual(missing(WORLD, shape, rows), outline)
            if outline is not None:
                self.assertTrue(is_missing(WORLD, shape, rows, outline))

    def test_the_first_of_all_outlines(self):
        found = 0
        for shape, rows in samples(201, 40):
            outline = missing(WORLD, shape, rows)
            listed = [one for size in range(5) for one in outlines_listed(shape, size)]
            right = [one for one in listed if is_left_out(shape, rows, one)]
            if right:
                self.assertEqual(outline, right[0], (shape, rows))
                found += 1
            elif outline is not None:
                self.assertNotIn(outline, listed)
                self.assertTrue(is_left_out(shape, rows, outline))
            self.assertEqual(outline is None, ("none",) not in ends_of(tree_of(WORLD, shape, rows)) or not has_values(shape))
        self.assertGreater(found, 150)

    def test_is_missing(self):
        source = random.Random(202)
        seen = {True: 0, False: 0}
        for shape, rows in samples(203, 15):
            listed = [one for size in range(4) for one in outlines_listed(shape, size)]
            for outline in source.sample(listed, min(len(listed), 25)):
                right = is_left_out(shape, rows, outline)
                seen[right] += 1
                self.assertEqual(is_missing(WORLD, shape, rows, outline), right, (shape, rows, outline))
        self.assertGreater(min(seen.values()), 300)

    def test_what_is_no_outline(self):
        for value in (*ODD_VALUES, word("x"), NIL + (ANY,), make("Cons", ANY), make("Lost"), make("Cons", 0, ANY), ("make",),
                      make("Cons", YES, word("x")), make("Cons", ("fun",), ANY), ("any", 0), ["any"], make("Cons", ANY, ANY, ANY), 7):
            self.assertFalse(is_missing(WORLD, BOOLS, (), value), value)
            self.assertFalse(is_missing(WORLD, BOOLS, (), make("Cons", value, ANY)))
        self.assertTrue(is_missing(WORLD, BOOLS, (), make("Cons", ANY, ANY)))
        for value in (NIL, make("Cons", ANY, ANY), 0):
            self.assertFalse(is_missing(WORLD, INT, (), value))
        self.assertFalse(is_missing(WORLD, ("Void",), (), ANY))
        self.assertFalse(is_missing(WORLD, ("List", ("Void",)), (), make("Cons", ANY, ANY)))
        self.assertTrue(is_missing(WORLD, ("List", ("Void",)), (make("Cons", ANY, ANY),), NIL))
        deep = ANY
        for _ in range(58):
            deep = make("Cons", ANY, deep)
        self.assertTrue(is_missing(WORLD, BOOLS, R[:1], deep))

    def test_great_outlines_are_found_soon(self):
        """Eight rows with all places that they may have."""
        source = random.Random(204)
        one = ("One", 0, (("O", BOOL, BOOL, BOOL),))
        three = ("Three", 0, (("T", ("One",), ("One",), ("One",)),))
        start = perf_counter()
        for _ in range(12):
            # Without a row of its own for each part, no part alone leaves out all rows.
            rows = tuple(make("T", *[make("O", *[source.choice([YES, NO])], ANY, ANY) if at == number % 3 else ANY for at in range(3)])
                         for number in range(8))
            self.assertIsNone(rows_error((one, three), ("Three",), rows))
            outline = missing((one, three), ("Three",), rows)
            self.assertTrue(outline is None or is_missing((one, three), ("Three",), rows, outline))
        wide = ("Wide", 0, (("W", BOOL, BOOL, BOOL), ("X",)))
        top = ("Top", 0, (("V", ("Wide",), ("Wide",), ("Wide",)),))
        for name in ("W", "X"):
            part = make(name, *[ANY] * (3 if name == "W" else 0))
            rows = tuple(make("V", part, part, ANY) if name == "W" else make("V", part, part, part) for _ in range(5))
            self.assertIsNone(rows_error((wide, top), ("Top",), rows))
            other = make("W", ANY, ANY, ANY) if name == "X" else make("X")
            right = make("V", ANY, other, ANY) if name == "W" else make("V", ANY, ANY, other)
            self.assertEqual(missing((wide, top), ("Top",), rows), right)
        self.assertLess(perf_counter() - start, 5)

    def test_limits(self):
        for many, leaves, texts in WIDE:
            shape, rows = wide_rows(leaves, texts.split())
            for function, more in ((missing, ()), (idle_rows, ()), (witness, ("x",)), (count_met, ("x", "x"))):
                if many > 1000:
                    self.refused(TooLarge, TREE, function, LEAVES, shape, rows, *more)
            if many <= 1000:
                self.assertTrue(is_missing(LEAVES, shape, rows, missing(LEAVES, shape, rows)))
                self.assertEqual(idle_rows(LEAVES, shape, rows), ())
                numbers = (*range(len(rows)), None)
                total = sum(count_met(LEAVES, shape, rows, number, 2 * len(leaves) - 1) for number in numbers)
                forms = 1
                for leaf in leaves:
                    forms *= int(leaf)
                self.assertEqual(total, forms)
            self.assertFalse(is_missing(LEAVES, shape, rows, None))
        for datas, shape in too_much_met():
            for function, more in ((missing, ()), (is_missing, (None,)), (idle_rows, ()), (witness, ("x",)), (count_met, ("x", "x"))):
                self.refused(TooLarge, MET, function, datas, shape, (ANY,), *more)
        datas, shape = meeting(200)
        self.assertIsNone(missing(datas, shape, (ANY,)))


class Idles(Raises, unittest.TestCase):
    def test_some(self):
        for shape, rows, idle in (
            (BOOLS, (ANY, NIL), (1,)), (BOOLS, R, ()), (("Void",), (ANY, ANY), (0, 1)), (BOOL, (YES, NO, ANY), (2,)),
            (BOOL, (), ()), (("List", ("Void",)), (make("Cons", ANY, ANY), ANY), (0,)), (INT, (ANY, word("x")), (1,)),
            (BOOL, (YES, YES, NO, NO, ANY, ANY), (1, 3, 4, 5)),
        ):
            self.assertEqual(idle_rows(WORLD, shape, rows), idle)
            for number in range(len(rows)):
                if number in idle:
                    self.refused(Idle, {"number": number}, witness, WORLD, shape, rows, number)
                    self.assertEqual(sum(count_met(WORLD, shape, rows, number, size) for size in range(12)), 0)

    def test_the_first_of_all_forms(self):
        for shape, rows in samples(211):
            idle = idle_rows(WORLD, shape, rows)
            listed = [form for size in range(9) for form in forms_listed(WORLD, shape, size)[:4000]]
            for number in range(len(rows)):
                forms = [form for form in listed if first_row(rows, form) == number]
                if number in idle:
                    self.assertEqual(forms, [])
                    self.refused(Idle, {"number": number}, witness, WORLD, shape, rows, number)
                else:
                    form = witness(WORLD, shape, rows, number)
                    self.assertEqual(first_row(rows, form), number)
                    if forms:
                        self.assertEqual(form, forms[0])

    def test_no_rows(self):
        for value in (*NO_NUMBERS, None):
            caught = self.refused(NoRow, {"number": value}, witness, WORLD, BOOLS, R, value)
            self.assertIs(caught.number, value)
        self.refused(NoRow, {"number": 0}, witness, WORLD, BOOLS, (), 0)
        self.refused(NoRow, {"number": 1}, witness, WORLD, ("Void",), (ANY,), 1)

    def test_five_hundred_makers(self):
        for extra, many in ((0, 499), (1, 500), (2, 501)):
            datas, shape = towers(extra)
            if many <= 500:
                found = witness(datas, shape, (make("Few"), ANY), 1)
                self.assertEqual(str(found).count("make"), many)
            else:
                self.refused(TooLarge, FORM, witness, datas, shape, (make("Few"), ANY), 1)
            self.refused(Idle, {"number": 1}, witness, datas, shape, (ANY, ANY), 1)


def towers(extra):
    """Datas with a shape whose second maker has forms of 499 makers and so many more."""
    triple = ("A", 0, (("A1",),)), ("B", 0, (("B3", ("A",), ("A",), ("A",)),)), ("C", 0, (("C3", ("B",), ("B",), ("B",)),))
    fourth = ("D", 1, (("D3", 0, 0, 0),))
    # The form of A has 1 maker, of B 4, of C 13; that of D of a shape 1 and three times as many:
    # D C 40, D (D C) 121, D (D (D C)) 364. So the three parts have 364 + 121 + 13 makers and some more.
    deep = ("D", ("D", ("D", ("C",))))
    rest = ("D", ("C",))
    last = {0: ("C",), 1: ("Box", ("C",)), 2: ("Box", ("Box", ("C",)))}[extra]
    box = ("Box", 1, (("Bx", 0),))
    whole = ("Top", 0, (("Few",), ("Most", deep, ("D", rest), last)))
    return (*triple, fourth, box, whole), ("Top",)


class Counts(Raises, unittest.TestCase):
    def test_the_example(self):
        found = [[count_met(WORLD, BOOLS, R, number, size) for number in (0, 1, None)] for size in (1, 3, 39)]
        self.assertEqual(found, [[1, 0, 0], [0, 1, 1], [0, 262144, 262144]])

    def test_all_forms_listed(self):
        for shape, rows in samples(221, 12):
            for size in range(7):
                forms = [first_row(rows, form) for form in forms_listed(WORLD, shape, size)]
                for number in (*range(len(rows)), None):
                    self.assertEqual(count_met(WORLD, shape, rows, number, size), forms.count(number), (shape, rows, number, size))

    def test_errors(self):
        for value in NO_NUMBERS:
            caught = self.refused(NoRow, {"number": value}, count_met, WORLD, BOOLS, R, value, "x")
            self.assertIs(caught.number, value)
        for value in NO_SIZES:
            for number in (0, None):
                caught = self.refused(BadSize, {"size": value}, count_met, WORLD, BOOLS, R, number, value)
                self.assertIs(caught.size, value)
        self.assertEqual(count_met(WORLD, BOOLS, R, None, 40), 0)
        self.assertEqual(count_met(WORLD, BOOLS, R, 0, 0), 0)
        self.assertEqual(count_met(WORLD, INT, (ANY,), 0, 0), 1)
        self.assertEqual(count_met(WORLD, ("Void",), (), None, 0), 0)

    def test_great_counts_are_found_soon(self):
        four = ("F", 0, (("Fa", ("F",)), ("Fb", ("F",)), ("Fc", BOOL, ("F",)), ("Fd",)))
        top = ("Top", 0, (("T", ("F",), ("List", ("F",)), ("List", BOOL)),))
        source = random.Random(222)
        start = perf_counter()
        many = 0
        for _ in range(20):
            rows = tuple(make("T", *[source.choice([ANY, make("Fa", ANY), make("Fb", make("Fd"))]),
                                     source.choice([ANY, NIL, make("Cons", make("Fd"), ANY)]),
                                     source.choice([ANY, NIL, make("Cons", YES, make("Cons", NO, ANY))])]) for _ in range(5))
            if rows_error((LISTS, four, top), ("Top",), rows) is None:
                total = [sum(count_met((LISTS, four, top), ("Top",), rows, number, size) for number in (0, 1, 2, 3, 4, None)) for size in (12, 40)]
                everything = [count_met((LISTS, four, top), ("Top",), (ANY,), 0, size) for size in (12, 40)]
                self.assertEqual(total, everything)
                many += 1
        self.assertGreater(many, 3)
        self.assertLess(perf_counter() - start, 10)


class Arguments(unittest.TestCase):
    def test_what_was_given_once_is_given_again(self):
        for function, more in ((missing, ()), (idle_rows, ()), (witness, (1,)), (count_met, (1, 21)), (is_missing, (make("Cons", NO, ANY),))):
            datas, shape, rows = (LISTS, VOID), BOOLS, R
            before = repr((datas, shape, rows, more))
            self.assertEqual(function(datas, shape, rows, *more), function(datas, shape, rows, *more))
            self.assertEqual(repr((datas, shape, rows, more)), before)


if __name__ == "__main__":
    unittest.main()
