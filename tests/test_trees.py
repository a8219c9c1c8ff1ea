import random
import unittest

from makes import (ANY, BOOLS, DATAS, LISTS, NIL, NO, PAIR, TREES, VOID, YES, forms_listed, make, meeting, parts_in,
                   random_pattern, too_much_met, word)
from samples import BOOL, INT, ODD_VALUES, Raises
from shapelang.errors import BadForm, BadRows, TooLarge
from shapelang.rows import first_row, rows_error
from shapelang.trees import Tree, tree_holds, tree_of

MET = {"limit": 200}
LIMIT = {"limit": 1000}
NONE = ("none",)
UNIT = ("Unit", 0, (("U",),))
MANY = ("Many", 1, (("No", ("Void",)), ("One", 0), ("Two", 0, ("Void",)), ("Three", ("Many", 0), BOOL)))
WORLD = (LISTS, PAIR, TREES, VOID, UNIT, MANY)
SHAPES = (BOOLS, ("List", 0), ("Pair", BOOL, BOOLS), ("Tree", BOOL), BOOL, INT, 0, ("Pair", BOOL, ("Pair", BOOL, BOOL)), ("Many", BOOL),
          ("Many", ("Many", ("Unit",))), ("Pair", ("Unit",), ("Unit",)), ("Pair", ("Void",), BOOL), ("Void",), ("List", ("Void",)),
          ("Pair", ("List", ("Void",)), ("Many", ("Void",))), ("->", 0, 0))
ARITIES = {"Nil": 0, "Cons": 2, "Both": 2, "Leaf": 0, "Node": 3, "True": 0, "False": 0, "U": 0, "No": 1, "One": 1, "Two": 2, "Three": 2}


def row(number):
    return ("row", number)


def look(way, *branches):
    return ("look", way, branches)


def makers_in(shape):
    """The makers of a data shape with their parts, None for other shapes."""
    table = {name: makers for name, _, makers in (("Bool", 0, (("False",), ("True",))), *WORLD)}
    if not isinstance(shape, tuple) or shape[0] not in table:
        return None
    return [(maker[0], tuple(parts_in(shape, part) for part in maker[1:])) for maker in table[shape[0]]]


def has_values(shape):
    return any(forms_listed(WORLD, shape, size) for size in range(6))


def branches_in(shape):
    return [(name, parts) for name, parts in makers_in(shape) if all(map(has_values, parts))]


def pattern_for(source, shape, depth, words):
    """A pattern that fits the shape."""
    makers = makers_in(shape)
    if makers and depth > 0 and source.random() < 0.75:
        name, parts = source.choice(makers)
        return make(name, *[pattern_for(source, part, depth - 1, words) for part in parts])
    return word(words.pop()) if words and source.random() < 0.5 else ANY


def random_rows(source, shape, most=5, depth=3):
    rows = tuple(pattern_for(source, shape, source.randrange(depth + 1), ["x", "y"]) for _ in range(source.randrange(most)))
    return rows if rows_error(WORLD, shape, rows) is None else random_rows(source, shape, most, depth)


def at_way(pattern, way):
    """The pattern at a way or around it, as far as it goes."""
    for index in way:
        if pattern[0] != "make":
            return pattern
        pattern = pattern[2 + index]
    return pattern


def shape_of_way(shape, way, known):
    for at in range(len(way)):
        shape = dict(makers_in(shape))[known[way[:at]]][way[at]]
    return shape


def makes_of(pattern, way=()):
    """The ways of the makers in a pattern, in the order of its places."""
    if pattern[0] != "make":
        return []
    return [way, *[inner for at, part in enumerate(pattern[2:]) for inner in makes_of(part, (*way, at))]]


def tree_by_rule(shape, rows, known):
    """The tree of the rows, by point 20 written down once more."""
    def can_be_met(pattern):
        return all(at_way(pattern, way)[0] != "make" or at_way(pattern, way)[1] == name for way, name in known.items())

    left = [index for index, pattern in enumerate(rows) if can_be_met(pattern)]
    if not left or not has_values(shape):
        return NONE
    ways = [way for way in makes_of(rows[left[0]]) if way not in known]
    if not ways:
        return row(left[0])
    names = [name for name, _ in branches_in(shape_of_way(shape, ways[0], known))]
    return look(ways[0], *[(name, tree_by_rule(shape, rows, {**known, ways[0]: name})) for name in names])


def led(tree, form):
    """The end to which a form is led."""
    while tree[0] == "look":
        tree = dict(tree[2])[at_way(form, tree[1])[1]]
    return tree


def looks_of(tree, around=()):
    """All ways that are looked at, each with those on the road to it."""
    if tree[0] != "look":
        return []
    return [(tree[1], around), *[found for _, branch in tree[2] for found in looks_of(branch, (*around, tree[1]))]]


def ends_of(tree):
    return [tree] if tree[0] != "look" else [end for _, branch in tree[2] for end in ends_of(branch)]


def random_tree(source, shape, rows, known, left=6):
    """A right tree that looks in any order, at what need not be looked at, too; None if it would be too deep."""
    ways = [()] if () not in known else [(*way, at) for way, name in known.items()
                                         for at in range(len(dict(makers_in(shape_of_way(shape, way, known)))[name]))]
    ways = [way for way in ways if way not in known and makers_in(shape_of_way(shape, way, known)) is not None]
    ends = {first_row(rows, form) for size in range(8) for form in forms_listed(WORLD, shape, size)
            if all(at_way(form, way)[1] == name for way, name in known.items())}
    if len(ends) == 1 and (not ways or source.random() < 0.7):
        end = ends.pop()
        # More than the listed forms may be there: the tree of the rule tells.
        found = {str(one) for one in ends_of(tree_by_rule(shape, rows, known))}
        if len(found) == 1:
            return NONE if end is None else row(end)
    if not ways or left == 0:
        return None
    way = source.choice(ways)
    branches = [(name, random_tree(source, shape, rows, {**known, way: name}, left - 1))
                for name, _ in branches_in(shape_of_way(shape, way, known))]
    return None if any(branch is None for _, branch in branches) else look(way, *branches)


def changed(source, tree):
    """The tree with one thing changed."""
    if tree[0] != "look":
        return source.choice([NONE, row(0), row(1), row(2), row(True), ("row",), ("none", 0), None, row(-1), look((), ())])
    at = source.randrange(len(tree[2])) if tree[2] else None
    roll = source.random()
    if at is None or roll < 0.15:
        return source.choice([look((*tree[1], 0), *tree[2]), look(tree[1][:-1], *tree[2]), look(tree[1], *tree[2][1:]),
                              look(tree[1], *tree[2], *tree[2][:1]), look(tree[1], *tree[2][::-1]),
                              look(list(tree[1]), *tree[2]), ("look", tree[1], list(tree[2])), (*tree, ()), tree[:2]])
    if roll < 0.25:
        return look(tree[1], *tree[2][:at], (tree[2][at][0] + "x", tree[2][at][1]), *tree[2][at + 1:])
    return look(tree[1], *tree[2][:at], (tree[2][at][0], changed(source, tree[2][at][1])), *tree[2][at + 1:])


class TreesOfRows(Raises, unittest.TestCase):
    def samples(self, seed, many=25):
        source = random.Random(seed)
        return [(shape, random_rows(source, shape)) for shape in SHAPES for _ in range(many)]

    def test_the_rule_once_more(self):
        for shape, rows in self.samples(101, 40):
            tree = tree_of(WORLD, shape, rows)
            self.assertEqual(tree, tree_by_rule(shape, rows, {}))
            self.assertTrue(tree_holds(WORLD, shape, rows, tree))
            for way, around in looks_of(tree):
                self.assertNotIn(way, around)
            for size in range(6):
                for form in forms_listed(WORLD, shape, size)[:40]:
                    first = first_row(rows, form)
                    self.assertEqual(led(tree, form), NONE if first is None else row(first))

    def test_some_trees(self):
        x = word("x")
        for shape, rows, tree in (
            (BOOLS, (), NONE), (INT, (), NONE), (INT, (x,), row(0)), (BOOLS, (ANY, NIL), row(0)), (BOOL, (YES, YES, x),
             look((), ("False", row(2)), ("True", row(0)))),
            (("Pair", BOOL, BOOL), (make("Both", x, YES), make("Both", NO, ANY)), look((), ("Both", look((1,), (
                "False", look((0,), ("False", row(1)), ("True", NONE))), ("True", row(0)))))),
            (("Void",), (ANY,), NONE), (("Void",), (), NONE), (("Pair", ("Void",), BOOL), (ANY, make("Both", ANY, YES)), NONE),
            (("List", ("Void",)), (NIL,), look((), ("Nil", row(0)))), (("List", ("Void",)), (make("Cons", ANY, NIL), NIL),
             look((), ("Nil", row(1)))), (("Many", INT), (make("No", ANY), make("One", ANY)), look((), ("One", row(1)), ("Three", NONE))),
            (("Unit",), (make("U"),), look((), ("U", row(0)))),
        ):
            self.assertEqual(tree_of(WORLD, shape, rows), tree)

    def test_a_thousand_looks_and_ends(self):
        for many, leaves, texts in WIDE:
            shape, rows = wide_rows(leaves, texts.split())
            self.assertIsNone(rows_error(LEAVES, shape, rows))
            if many <= 1000:
                tree = tree_of(LEAVES, shape, rows)
                self.assertEqual(len(looks_of(tree)) + len(ends_of(tree)), many)
                self.assertTrue(tree_holds(LEAVES, shape, rows, tree))
                self.assertEqual(len(Tree(LEAVES, shape, rows)), len(ends_of(tree)))
            else:
                self.refused(TooLarge, LIMIT, tree_of, LEAVES, shape, rows)
                self.refused(TooLarge, LIMIT, Tree, LEAVES, shape, rows)
                self.assertFalse(tree_holds(LEAVES, shape, rows, row(0)))
            self.assertTrue(tree_holds(LEAVES, shape, (ANY, *rows), row(0)))


LEAVES = (("B2", 0, (("A",), ("C",))), ("B3", 0, (("D",), ("E",), ("F",))),
          ("B4", 0, (("G",), ("H",), ("I",), ("J",))), ("P", 2, (("Q", 0, 1),)))
# How many looks and ends a tree has, how many makers the leaves have, and the makers in the rows.
WIDE = (
    (998, "4334434", "...J..I I..JI.. HF....J .DD.... ....JD."), (999, "3443434", "..H..E. .J.D..I ..G.G.. F..D... .....FH"),
    (1000, "4423444", "...E.I. I...J.H .I...GH ..A...J"), (1001, "2442444", "..IA..I .G.C..G ...CGJ. A....II"),
    (1001, "4334434", "GD.H... ..DJG.. ....J.H J...I.. ...J.E."), (1002, "4444424", "JG....H .....CH .J..G.. ..JG... GH.H..."),
    (1500, "44444444", "G..G..G. .G..G..G H..H..H. ..H..H.H"),
    (3413, "44444444", "I.I...I. .H.J.I.. .....HGG ....I..J"),
)


def wide_rows(leaves, texts):
    """A shape of pairs with so many leaves, and the rows with these makers in them."""
    shape = (f"B{leaves[-1]}",)
    for leaf in leaves[-2::-1]:
        shape = ("P", (f"B{leaf}",), shape)
    rows = []
    for text in texts:
        parts = [make(sign) if sign != "." else ANY for sign in text]
        pattern = parts.pop()
        while parts:
            part = parts.pop()
            pattern = ANY if (part, pattern) == (ANY, ANY) else make("Q", part, pattern)
        rows.append(pattern)
    return shape, tuple(rows)


class TreesOfOthers(Raises, unittest.TestCase):
    def test_right_trees_that_look_in_another_order(self):
        source = random.Random(111)
        many = others = 0
        for shape in SHAPES:
            if not has_values(shape):
                continue
            for _ in range(12):
                rows = random_rows(source, shape, most=4, depth=2)
                tree = random_tree(source, shape, rows, {})
                if tree is not None:
                    many += 1
                    others += tree != tree_of(WORLD, shape, rows)
                    self.assertTrue(tree_holds(WORLD, shape, rows, tree), (shape, rows, tree))
        self.assertGreater(many, 60)
        self.assertGreater(others, 30)

    def test_changed_trees(self):
        """A changed tree is right just if it is well made and leads all forms to their first rows."""
        source = random.Random(112)
        seen = {True: 0, False: 0}
        for shape in SHAPES:
            for _ in range(40):
                rows = random_rows(source, shape, most=4, depth=2)
                tree = changed(source, tree_of(WORLD, shape, rows))
                right = right_by_rule(shape, rows, tree)
                seen[right] += 1
                self.assertEqual(tree_holds(WORLD, shape, rows, tree), right, (shape, rows, tree))
        self.assertGreater(min(seen.values()), 25)

    def test_well_made(self):
        rows = (make("Both", YES, ANY), make("Both", ANY, YES))
        shape = ("Pair", BOOL, BOOL)
        first = look((), ("Both", look((0,), ("False", look((1,), ("False", NONE), ("True", row(1)))), ("True", row(0)))))
        second = look((), ("Both", look((1,), ("False", look((0,), ("False", NONE), ("True", row(0)))),
                                        ("True", look((0,), ("False", row(1)), ("True", row(0)))))))
        more = look((), ("Both", look((0,), ("False", look((1,), ("False", NONE), ("True", row(1)))),
                                      ("True", look((1,), ("False", row(0)), ("True", row(0)))))))
        for tree in (first, second, more):
            self.assertTrue(tree_holds(WORLD, shape, rows, tree))
            self.assertFalse(tree_holds(WORLD, shape, rows[::-1], tree))
        inner = first[2][0][1]
        for tree in (inner, look((0,), *first[2]), look((2,), *inner[2]), look((), ("Both", look((2,), *inner[2]))),
                     look((), ("Both", look((-1,), *inner[2]))), look((), ("Both", look((False,), *inner[2]))),
                     look((), ("Both", look((0, 0), *inner[2]))), look((), ("Both", look([0], *inner[2]))),
                     look((), ("Both", look(0, *inner[2]))), look((), ("Both", look("0", *inner[2]))),
                     look((), ("Both", look((), ("Both", inner)))), look((), ("Both", first)), look((), ("Pair", inner)),
                     look((), ["Both", inner]), look((), ("Both", inner, inner)), look((), ("Both",)), look((), (("Both",), inner)),
                     look((), ("Both", inner), ("Both", inner)), look(()), ("look", ()), ("look",), (*first, ()), ["look", *first[1:]],
                     ("look", (), [("Both", inner)]), ("look", (), {"Both": inner}), look(None, ("Both", inner)),
                     look((), ("Both", look((0,), *inner[2][::-1]))), look((), ("Both", look((0,), *inner[2][:1]))),
                     look((), ("Both", look((0,), *inner[2], inner[2][1]))), look((), ("Both", look((0,), inner[2][1], inner[2][1])))):
            self.assertFalse(tree_holds(WORLD, shape, rows, tree), tree)

    def test_ways_to_parts_that_are_not_there(self):
        shape = ("Pair", BOOL, ("Pair", BOOL, BOOL))
        last = make("Both", ANY, make("Both", ANY, YES))

        def tree(way, inner):
            return look((), ("Both", look(way, ("Both", look(inner, ("False", NONE), ("True", row(0)))))))

        for way, inner, right in (((1,), (1, 1), True), ((-1,), (-1, -1), False), ((1,), (1, -1), False), ((1,), (1, 2), False),
                                  ((1,), (1, 5), False), ((-1,), (1, 1), False), ((1,), (-1, 1), False), ((2,), (2, 1), False),
                                  ((1,), (1, True), False), ((True,), (True, 1), False), ((1,), (1, 1, 0), False)):
            self.assertEqual(tree_holds(WORLD, shape, (last,), tree(way, inner)), right, (way, inner))
        for way, right in (((1,), True), ((-1,), False), ((True,), False), ((2,), False), ((1, 0), False)):
            tree_of_one = look((), ("Both", look(way, ("False", NONE), ("True", row(0)))))
            self.assertEqual(tree_holds(WORLD, ("Pair", BOOL, BOOL), (make("Both", ANY, YES),), tree_of_one), right)

    def test_ends(self):
        for end, right in ((row(0), True), (row(1), False), (row(2), False), (NONE, False), (row(False), False), (row(-1), False),
                           (("row",), False), (("row", 0, 0), False), (["row", 0], False), ("row", False), (None, False),
                           (("none", 0), False), (("row", "0"), False), (("row", (0,)), False), ((), False), (("Row", 0), False)):
            self.assertEqual(tree_holds(WORLD, INT, (ANY, ANY), end), right)
            if end not in (row(0), row(1)):
                self.assertEqual(tree_holds(WORLD, INT, (), end), end == NONE)
        self.assertTrue(tree_holds(WORLD, BOOL, (YES, ANY), look((), ("False", row(1)), ("True", row(0)))))
        self.assertFalse(tree_holds(WORLD, BOOL, (YES, ANY), look((), ("False", row(True)), ("True", row(0)))))
        self.assertFalse(tree_holds(WORLD, BOOL, (YES, ANY), row(1)))

    def test_makers_that_are_the_only_ones(self):
        unit = make("U")
        self.assertTrue(tree_holds(WORLD, ("Unit",), (unit,), row(0)))
        self.assertTrue(tree_holds(WORLD, ("Pair", ("Unit",), BOOL), (make("Both", unit, ANY),), row(0)))
        self.assertFalse(tree_holds(WORLD, ("Pair", ("Unit",), BOOL), (make("Both", unit, YES), ANY), row(0)))
        self.assertTrue(tree_holds(WORLD, ("List", ("Void",)), (NIL,), row(0)))
        self.assertTrue(tree_holds(WORLD, ("List", ("Void",)), (make("Cons", ANY, ANY), NIL), row(1)))
        self.assertTrue(tree_holds(WORLD, ("List", ("Void",)), (make("Cons", ANY, ANY),), NONE))
        self.assertFalse(tree_holds(WORLD, ("List", ("Void",)), (make("Cons", ANY, ANY), NIL), row(0)))
        self.assertTrue(tree_holds(WORLD, ("Many", INT), (make("Two", ANY, ANY), ANY), row(1)))
        self.assertFalse(tree_holds(WORLD, ("Many", INT), (make("One", ANY), ANY), row(1)))

    def test_shapes_without_values(self):
        for shape, rows in ((("Void",), (ANY,)), (("Void",), ()), (("Pair", ("Void",), BOOL), (make("Both", ANY, YES), ANY))):
            for tree in (NONE, row(0), row(7), row(10 ** 60), look(())):
                self.assertTrue(tree_holds(WORLD, shape, rows, tree))
            for tree in (row(True), row(-1), ("row",), look((), ("Both", NONE)), look((0,)), look((1,)), None, [], ("look", (), []),
                         ("look", []), ("look", [], ())):
                self.assertFalse(tree_holds(WORLD, shape, rows, tree))

    def test_any_value(self):
        for shape in (BOOLS, INT, ("Void",)):
            for value in ODD_VALUES:
                self.assertFalse(tree_holds(WORLD, shape, (ANY,), value))
                self.assertFalse(tree_holds(WORLD, BOOL, (YES, ANY), look((), ("False", value), ("True", row(0)))))
                self.assertFalse(tree_holds(WORLD, BOOL, (YES, ANY), look(value, ("False", row(1)), ("True", row(0)))) and value != ())

    def test_too_much_is_met(self):
        for datas, shape in too_much_met():
            for rows in ((), (ANY,)):
                self.refused(TooLarge, MET, tree_of, datas, shape, rows)
                for value in ODD_VALUES:
                    self.refused(TooLarge, MET, tree_holds, datas, shape, rows, value)
            for value in (*ODD_VALUES, (None,), (ANY,)):
                self.refused(TooLarge, MET, Tree, datas, shape, value)
        datas, shape = meeting(200)
        self.assertEqual(len(Tree(datas, shape, (make("S6", ANY), ANY))), 3)


def right_by_rule(shape, rows, tree, known=None):
    """Whether a tree is right, by all forms up to a size that tells them apart."""
    known = known or {}
    if not isinstance(tree, tuple) or not tree:
        return False
    if tree[0] == "look":
        if len(tree) != 3 or not isinstance(tree[1], tuple) or not isinstance(tree[2], tuple) or tree[1] in known:
            return False
        if tree[1] != () and (tree[1][:-1] not in known):
            return False
        if tree[1] != () and tree[1][-1] >= len(dict(makers_in(shape_of_way(shape, tree[1][:-1], known)))[known[tree[1][:-1]]]):
            return False
        inner = shape_of_way(shape, tree[1], known)
        if makers_in(inner) is None:
            return False
        if not all(isinstance(branch, tuple) and len(branch) == 2 for branch in tree[2]):
            return False
        names = [name for name, _ in branches_in(inner)] if has_values(shape) or tree[1] == () else []
        if [branch[0] for branch in tree[2]] != names:
            return False
        return all(right_by_rule(shape, rows, branch, {**known, tree[1]: name}) for name, branch in tree[2])
    if tree != NONE and (len(tree) != 2 or tree[0] != "row" or isinstance(tree[1], bool) or tree[1] < 0):
        return False
    forms = [form for size in range(9) for form in forms_listed(WORLD, shape, size)[:3000]]
    forms = [form for form in forms if all(at_way(form, way)[1] == name for way, name in known.items())]
    return all((NONE if first_row(rows, form) is None else row(first_row(rows, form))) == tree for form in forms)


class Objects(Raises, unittest.TestCase):
    rows = (NIL, make("Cons", YES, word("r")))

    def test_errors(self):
        for value in (*ODD_VALUES, (None,), (ANY,) * 9, (make("Lost"),), (make("Cons", word("x"), word("x")),)):
            error = rows_error(WORLD, BOOLS, value)
            if error is not None:
                self.refused(BadRows, {"error": error}, Tree, WORLD, BOOLS, value)
        self.refused(BadRows, {"error": ((0, 0), "maker")}, Tree, WORLD, BOOLS, (make("Cons", NIL, ANY),))

    def test_shown(self):
        for shape in SHAPES:
            source = random.Random(121)
            for _ in range(5):
                rows = random_rows(source, shape)
                tree = Tree(WORLD, shape, rows)
                self.assertEqual(tree.shown, tree_of(WORLD, shape, rows))
                self.assertEqual(len(tree), len(ends_of(tree.shown)))
                depths = [len(around) + 1 for _, around in looks_of(tree.shown)]
                self.assertEqual(str(tree), f"{len(tree)} ends, {max(depths, default=0)} looks")
                for form in [form for size in range(6) for form in forms_listed(WORLD, shape, size)[:30]]:
                    self.assertEqual(tree(form), first_row(rows, form))
        with self.assertRaises(AttributeError):
            tree.shown = NONE

    def test_calls(self):
        tree = Tree(WORLD, BOOLS, self.rows)
        self.assertEqual([tree(NIL), tree(make("Cons", YES, NIL)), tree(make("Cons", NO, NIL))], [0, 1, None])
        for value in (*ODD_VALUES, ANY, 1, YES, make("Cons", 1, NIL), make("Cons", YES, ANY), make("Nil", NIL)):
            caught = self.refused(BadForm, {"form": value}, tree, value)
            self.assertIs(caught.form, value)
        self.refused(BadForm, {"form": 7}, Tree(WORLD, INT, (ANY,)), 7)
        self.assertEqual(Tree(WORLD, INT, (ANY,))(ANY), 0)

    def test_in(self):
        tree = Tree(WORLD, BOOLS, (*self.rows, NIL))
        for value, right in ((0, True), (1, True), (2, False), (-1, False), (True, False), (False, False), (None, False), ("0", False),
                             (row(0), False), ([0], False), ({}, False), (10 ** 70, False), (NONE, False)):
            self.assertEqual(value in tree, right)
        self.assertNotIn(0, Tree(WORLD, BOOLS, ()))
        self.assertNotIn(0, Tree(WORLD, ("Void",), (ANY,)))

    def test_equal(self):
        tree = Tree(WORLD, BOOLS, self.rows)
        self.assertTrue(tree == Tree(WORLD, BOOLS, (*self.rows, NIL)))
        self.assertFalse(tree != Tree(WORLD, BOOLS, self.rows))
        self.assertTrue(tree != Tree(WORLD, BOOLS, self.rows[::-1]))
        for other in (*ODD_VALUES, tree.shown, tree_of(WORLD, BOOLS, self.rows)):
            self.assertFalse(tree == other)
            self.assertTrue(tree != other)

    def test_len_and_str(self):
        for shape, rows, text in ((BOOLS, self.rows, "3 ends, 2 looks"), (INT, (), "1 ends, 0 looks"), (BOOL, (YES,), "2 ends, 1 looks"),
                                  (("Unit",), (make("U"),), "1 ends, 1 looks"), (("Void",), (), "1 ends, 0 looks")):
            tree = Tree(WORLD, shape, rows)
            self.assertEqual((str(tree), len(tree)), (text, int(text[0])))


if __name__ == "__main__":
    unittest.main()
