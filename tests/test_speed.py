"""Many calls in a row: generous bounds for what they take together, and the same answers as ever."""

import random
import unittest
from time import perf_counter

from makes import ANY, DATAS, KNOWN, fun, make, op, random_expression, word
from samples import boxes
from shapelang.binding import LONG, bound
from shapelang.equations import has_solution, solve
from shapelang.errors import Clash, NoMeeting, NoSolution, TooLarge
from shapelang.inferring import derivation_holds, derive, infer
from shapelang.places import has_room, places_of
from shapelang.programs import binder_of
from shapelang.schemes import Scheme
from shapelang.shapes import put_in
from shapelang.trees import tree_holds, tree_of

LEAVES = (("E", 0, (("Ea",), ("Eb",), ("Ec",), ("Ed",))), ("Q", 0, (("Qa", ("E",), ("E",), ("E",)),)), ("P", 0, (("Pa", ("Q",), ("Q",), ("Q",)),)))
RING = (("Box", 1, (("Wrap", 0), ("Gone",))), ("Node", 0, (("Both", ("Box", ("Node",)), ("Box", ("Node",))), ("Leaf",))))
VOID = (("Void", 0, ()), ("E", 0, (("Ea",), ("Eb",))), ("Q", 0, (("Qa", ("E",), ("E",), ("E",)),)),
        ("T", 0, (("Ta", ("Q",), ("Q",), ("Void",)), ("Tb", ("Q",), ("Q",)))))


def seconds(function, times=3):
    """The least of some times that a function takes."""
    found = []
    for _ in range(times):
        start = perf_counter()
        function()
        found.append(perf_counter() - start)
    return min(found)


def wide_rows(source, many):
    """Rows that look at one of nine innermost places each."""
    rows = []
    for _ in range(many):
        at = source.randrange(9)
        leaf = make(source.choice(["Ea", "Eb", "Ec", "Ed"]))
        rows.append(make("Pa", *[make("Qa", *[leaf if 3 * one + two == at else ANY for two in range(3)]) for one in range(3)]))
    return tuple(rows)


def ring_pattern(source, depth, is_node=True):
    if depth == 0 or source.random() < 0.2:
        return ANY
    if source.random() < 0.2:
        return make("Leaf" if is_node else "Gone")
    if is_node:
        return make("Both", ring_pattern(source, depth - 1, False), ring_pattern(source, depth - 1, False))
    return make("Wrap", ring_pattern(source, depth - 1))


class Trees(unittest.TestCase):
    def test_rows_that_look_at_many_places(self):
        source = random.Random(701)
        cases = [wide_rows(source, 4 + number % 5) for number in range(100)]
        trees = []

        def plant():
            trees.clear()
            for rows in cases:
                try:
                    trees.append((rows, tree_of(LEAVES, ("P",), rows)))
                except TooLarge as error:
                    self.assertEqual(error.limit, 1000)

        self.assertLess(seconds(plant), 0.1)
        self.assertGreater(len(trees), 40)
        self.assertLess(len(trees), 100)
        self.assertLess(seconds(lambda: self.assertTrue(all(tree_holds(LEAVES, ("P",), rows, tree) for rows, tree in trees))), 0.3)

    def test_rings_of_data(self):
        source = random.Random(702)
        cases = [tuple(ring_pattern(source, 6) for _ in range(5)) for _ in range(200)]
        self.assertLess(seconds(lambda: [tree_of(RING, ("Node",), rows) for rows in cases]), 0.1)
        trees = [(rows, tree_of(RING, ("Node",), rows)) for rows in cases]
        self.assertLess(seconds(lambda: self.assertTrue(all(tree_holds(RING, ("Node",), rows, tree) for rows, tree in trees))), 0.15)

    def test_parts_without_values(self):
        source = random.Random(703)

        def part():
            return make("Qa", *[source.choice([ANY, make("Ea"), make("Eb")]) for _ in range(3)])

        cases = [tuple(make("Ta", part(), part(), ANY) if source.random() < 0.5 else make("Tb", part(), part()) for _ in range(6)) for _ in range(300)]
        look = ("look", (), (("Tb", ("look", (0,), (("Qa", ("row", 0)),))),))
        self.assertLess(seconds(lambda: [(tree_holds(VOID, ("T",), rows, ("row", 6)), tree_holds(VOID, ("T",), rows, look)) for rows in cases]), 0.15)


class Binders(unittest.TestCase):
    def test_all_places_in_turn(self):
        expression = op("+", word("a"), word("b"))
        for _ in range(5):
            expression = ("match", word("x"), ((make("Cons", word("a"), ANY), ("let", "y", word("a"), fun("x", expression))), (ANY, word("a"))))
        expression = fun("x", expression)
        self.assertTrue(50 < len(places_of(expression)) <= 60 and has_room(expression))
        self.assertLess(seconds(lambda: [binder_of(expression, place) for place in range(len(places_of(expression)))], 5), 0.005)


def random_shape(source, nodes, names=4):
    if nodes <= 1:
        return source.choice([*range(names), *range(names), ("Int",), ("Bool",)])
    many = min(source.choice([1, 2, 2, 3]), nodes - 1)
    sizes = [1] * many
    for _ in range(nodes - 1 - many):
        sizes[source.randrange(many)] += 1
    name = {1: "Box", 2: source.choice(["Pair", "->"]), 3: "Tri"}[many]
    return (name, *[random_shape(source, size, names) for size in sizes])


def perhaps(function):
    try:
        return function()
    except (NoMeeting, TooLarge):
        return None


class Schemes(unittest.TestCase):
    def test_some_hundred_in_a_row(self):
        source = random.Random(711)
        schemes = [Scheme(random_shape(source, source.randrange(1, 20))) for _ in range(60)]
        threes = [tuple(source.choice(schemes) for _ in range(3)) for _ in range(300)]

        def work():
            for one, two, three in threes:
                both = one | two
                self.assertTrue(one.shape in both and two.shape in both)
                self.assertEqual(both | three, one | (two | three))
                self.assertEqual(both, two | one)
                first = perhaps(lambda: (one & two) & three)
                second = perhaps(lambda: one & (two & three))
                self.assertTrue(first is None or second is None or first == second)
                perhaps(lambda: one(tuple(two.shape for _ in range(len(one)))) in one)

        self.assertLess(seconds(work), 0.25)


def towers(many, times):
    return [(variable, ("T", *[variable + 1] * times)) for variable in range(many)]


class Solutions(unittest.TestCase):
    def cases(self):
        source = random.Random(721)
        found = []
        for many in (3, 6, 10, 20, 30, 45):
            for times in (2, 3):
                for groups in (1, 5, 20, 40):
                    for equations in (towers(many, times), towers(many, times) * 2, source.sample(towers(many, times), many)):
                        parts = tuple(tuple(equations[at::groups]) for at in range(groups))
                        if max(map(len, parts)) <= 20:
                            found.append((many, parts))
        return found

    def test_towers(self):
        cases = self.cases()
        self.assertGreater(len(cases), 100)
        self.assertLess(seconds(lambda: self.assertTrue(all(has_solution(parts) for _, parts in cases))), 0.03)

        def work():
            for many, parts in cases:
                try:
                    solution = solve(parts)
                except TooLarge:
                    self.assertGreater(many, 4)
                else:
                    self.assertEqual(len(solution), many + 1)
                    self.assertLess(many, 10)

        self.assertLess(seconds(work), 0.04)
        for _, parts in cases[:40]:
            ring = (*parts, ((3, ("T", 0, 0)), (3, ("T", 0, 0, 0))))
            self.assertFalse(has_solution(ring))
            self.assertRaises(NoSolution, solve, ring)

    def test_a_chain_of_four_thousand_levels(self):
        chain = tuple(((variable, boxes(20, variable + 1)),) for variable in range(199))
        mixed = random.Random(722).sample(chain, len(chain))
        for groups in (chain, tuple(mixed), chain[::-1]):
            self.assertLess(seconds(lambda: self.assertTrue(has_solution(groups))), 0.005)
            self.assertFalse(has_solution((*groups, ((199, boxes(3, 77)),))))
            self.assertTrue(has_solution((*groups, *groups)))
            self.assertLess(seconds(lambda: self.assertRaises(TooLarge, solve, groups)), 0.005)

    def test_what_would_take_without_end(self):
        """Where no two variables are compared, the same parts could be compared twice at each level."""
        groups = [((59, ("F", 159, 159)),)]
        for at in range(1, 60):
            groups.append(((at, ("F", ("B", at - 1), ("B", at - 1))),))
            groups.append(((100 + at, ("B", ("F", 99 + at, 99 + at))),))
        self.assertEqual(bound([equation for group in groups for equation in group]), LONG)
        self.assertLess(seconds(lambda: has_solution(tuple(groups))), 0.2)
        self.assertTrue(has_solution(tuple(groups)))
        self.assertRaises(TooLarge, solve, tuple(groups))
        ring = (((0, ("F", 1)),), ((0, ("F", ("G", 0))),), ((1, ("G", ("F", 1))),))
        self.assertFalse(has_solution(ring))
        self.assertRaises(NoSolution, solve, ring)
        self.assertEqual(bound([equation for group in ring for equation in group]), LONG)
        one, other = Scheme(("P", ("P", 0, ("F", ("G", 0))), 1)), Scheme(("P", ("P", ("F", 0), 0), 0))
        self.assertRaises(NoMeeting, lambda: one & other)


class Programs(unittest.TestCase):
    def test_fifty_expressions(self):
        source = random.Random(731)
        right, wrong = [], []
        while len(right) < 50 or len(wrong) < 50:
            expression = random_expression(source, 4)
            if 6 <= len(places_of(expression)) <= 22:
                try:
                    right.append((expression, derive(DATAS, KNOWN, expression)))
                except Clash:
                    wrong.append(expression)
        instances = [(expression, tuple(put_in(shape, *[("List", ("Int",)), 3] * 8) for shape in shapes)) for expression, shapes in right[:50]]

        def work():
            for expression, shapes in right[:50]:
                self.assertIn(shapes[0], infer(DATAS, KNOWN, expression))
                self.assertTrue(derivation_holds(DATAS, KNOWN, expression, shapes))
            for expression, shapes in instances:
                self.assertTrue(derivation_holds(DATAS, KNOWN, expression, shapes))

        self.assertLess(seconds(work), 0.06)
        self.assertLess(seconds(lambda: [self.assertRaises(Clash, infer, DATAS, KNOWN, expression) for expression in wrong[:50]]), 0.1)


if __name__ == "__main__":
    unittest.main()
