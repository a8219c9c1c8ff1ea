import random
import unittest

from samples import BOOL, INT, ODD_VALUES, Raises, boxes, broad, random_groups
from shapelang.equations import has_solution, solution_holds, solve
from shapelang.errors import NoSolution, TooLarge

LARGE = {"limit": 200}


def plain_solution(groups):
    """The plain solution as point 6 tells it, by replacing variables one at a time; None if there is none."""
    equations = [equation for group in groups for equation in group]
    names = sorted({name for equation in equations for side in equation for name in variables(side)})
    known = {}

    def put(shape):
        if isinstance(shape, int):
            return put(known[shape]) if shape in known else shape
        return (shape[0], *[put(part) for part in shape[1:]])

    while equations:
        one, other = [put(side) for side in equations.pop()]
        if one == other:
            continue
        if isinstance(one, int) and isinstance(other, int):
            known[max(one, other)] = min(one, other)
        elif isinstance(one, int) or isinstance(other, int):
            name, shape = (one, other) if isinstance(one, int) else (other, one)
            if name in variables(shape):
                return None
            known[name] = shape
        elif one[0] != other[0] or len(one) != len(other):
            return None
        else:
            equations.extend(zip(one[1:], other[1:]))
    return tuple((name, put(name)) for name in names)


def variables(shape):
    return [shape] if isinstance(shape, int) else [name for part in shape[1:] for name in variables(part)]


def chain(many, last):
    """Groups for variables 0 to many, each one a pair of the next one twice, and the last one this shape."""
    equations = [(name, ("Pair", name + 1, name + 1)) for name in range(many)] + [(many, last)]
    return tuple(tuple(equations[at:at + 20]) for at in range(0, len(equations), 20))


class Solve(Raises, unittest.TestCase):
    def solved(self, groups, solution):
        self.assertIs(has_solution(groups), True)
        self.assertEqual(solve(groups), solution)
        self.assertIs(solution_holds(groups, solution), True)

    def unsolved(self, groups):
        self.assertIs(has_solution(groups), False)
        self.refused(NoSolution, {}, solve, groups)

    def test_examples(self):
        self.solved((((0, ("Pair", 1, 2)),), ((2, 1), (1, 5)), ((0, ("Pair", 3, 4)),)),
                    ((0, ("Pair", 1, 1)), (1, 1), (2, 1), (3, 1), (4, 1), (5, 1)))
        self.unsolved((((0, ("Box", 0)),),))

    def test_no_groups_and_empty_groups(self):
        self.solved((), ())
        self.solved(((), (), ()), ())
        self.solved(((), ((3, INT),), ()), ((3, INT),))

    def test_pairs_for_just_the_variables_that_occur(self):
        self.solved((((7, ("Box", 190)),), ((INT, INT),), ((3, 3),)), ((3, 3), (7, ("Box", 190)), (190, 190)))

    def test_equal_variables_have_the_least(self):
        self.solved((((9, 4), (4, 7)), ((7, 2), (9, 9))), ((2, 2), (4, 2), (7, 2), (9, 2)))
        self.solved((((5, 1), (8, 3)), ((("Pair", 5, 8), ("Pair", 3, 1)),)), ((1, 1), (3, 1), (5, 1), (8, 1)))
        self.solved((((1, 2), (2, ("Box", 3)), (3, 0)),), ((0, 0), (1, ("Box", 0)), (2, ("Box", 0)), (3, 0)))

    def test_unlike_tuples(self):
        self.unsolved((((INT, BOOL),),))
        self.unsolved((((("Box", 0), ("Box", 0, 1)),),))
        self.unsolved((((("->", 0, 1), ("Pair", 0, 1)),),))
        self.unsolved((((0, INT),), ((1, 0),), ((BOOL, 1),)))
        self.unsolved((((0, ("Box", INT)), (0, ("Box", BOOL))),))

    def test_a_variable_within_itself(self):
        self.unsolved((((0, ("Pair", 1, INT)),), ((1, ("Box", 2)),), ((2, 0),)))
        self.unsolved((((("Pair", 0, 1), ("Pair", ("Box", 1), ("Box", 0))),),))
        self.unsolved((((0, ("->", 0, 0)),),))
        self.solved((((0, ("->", 1, 1)),),), ((0, ("->", 1, 1)), (1, 1)))

    def test_sizes(self):
        shape = ("Pair", 1, 2)
        self.assertEqual(solve((((3, shape), (1, broad(100)), (2, broad(99))),))[3], (3, ("Pair", broad(100), broad(99))))
        groups = (((3, shape), (1, broad(100)), (2, broad(100))),)
        self.assertTrue(has_solution(groups))
        self.refused(TooLarge, LARGE, solve, groups)

    def test_levels(self):
        self.assertEqual(solve((((1, boxes(19, 0)),), ((0, boxes(10, INT)),))), ((0, boxes(10, INT)), (1, boxes(29, INT))))
        self.refused(TooLarge, LARGE, solve, (((1, boxes(20, 0)),), ((0, boxes(10, INT)),)))
        self.assertTrue(has_solution((((1, boxes(20, 0)),), ((0, boxes(10, INT)),))))

    def test_only_the_shapes_of_variables_count(self):
        self.solved((((boxes(40, 0), boxes(40, 1)),),), ((0, 0), (1, 0)))
        ground = broad(150, INT)
        self.solved((((("T", ground, ground, 3), ("T", ground, 0, 1)),),), ((0, ground), (1, 1), (3, 1)))

    def test_solutions_of_many_nodes(self):
        for last in (INT, 61):
            groups = chain(60, last)
            self.assertTrue(has_solution(groups))
            self.refused(TooLarge, LARGE, solve, groups)
        self.unsolved(chain(60, 0))
        self.unsolved((*chain(60, INT), ((0, INT),)))
        self.unsolved((*chain(60, INT), ((60, BOOL),)))

    def test_equal_shapes_of_many_nodes(self):
        one = [(name, ("Pair", name + 1, name + 1)) for name in range(60)]
        other = [(100 + name, ("Pair", 101 + name, 101 + name)) for name in range(60)]
        equations = [*one, *other, (0, 100)]
        groups = tuple(tuple(equations[at:at + 20]) for at in range(0, len(equations), 20))
        self.assertTrue(has_solution(groups))
        self.refused(TooLarge, LARGE, solve, groups)
        self.unsolved((*groups, ((60, INT), (160, BOOL))))

    def test_long_chains_of_equations(self):
        equations = [(name % 200, (name + 1) % 200) for name in range(1600)]
        groups = tuple(tuple(equations[at:at + 20]) for at in range(0, 1600, 20))
        self.solved(groups, tuple((name, 0) for name in range(200)))
        self.unsolved((*groups[:-2], ((199, INT),), ((0, BOOL),)))
        equations = [(name, ("Box", name + 1)) for name in range(199)]
        groups = tuple(tuple(equations[at:at + 20]) for at in range(0, 199, 20))
        self.assertTrue(has_solution(groups))
        self.refused(TooLarge, LARGE, solve, groups)
        self.unsolved((*groups, ((199, 0),)))

    def test_many_levels(self):
        self.solved((((boxes(5998, 0), boxes(5998, 1)),),), ((0, 0), (1, 0)))
        self.unsolved((((boxes(5998, 0), boxes(5997, 0)),),))
        self.unsolved((((boxes(5998, INT), boxes(5998, BOOL)),),))
        self.refused(TooLarge, LARGE, solve, (((0, boxes(11000, 1)),),))
        self.assertTrue(has_solution((((0, boxes(11000, 1)),),)))
        self.unsolved((((0, boxes(5000, 1)), (1, boxes(5000, 0))),))

    def test_against_another_way(self):
        source = random.Random(7)
        seen = {True: 0, False: 0}
        for _ in range(1500):
            groups = random_groups(source, source.randrange(1, 4))
            solution = plain_solution(groups)
            seen[solution is None] += 1
            if solution is None:
                self.unsolved(groups)
            else:
                self.solved(groups, solution)
        self.assertGreater(min(seen.values()), 200)

    def test_the_order_of_equations_does_not_matter(self):
        source = random.Random(8)
        for _ in range(300):
            groups = random_groups(source, 3)
            turned = tuple(tuple((other, one) for one, other in group[::-1]) for group in groups[::-1])
            self.assertEqual(has_solution(groups), has_solution(turned))
            if has_solution(groups):
                self.assertEqual(solve(groups), solve(turned))


class SolutionHolds(unittest.TestCase):
    GROUPS = (((0, ("Pair", 1, 2)),), ((2, 1), (1, 5)))
    PLAIN = ((0, ("Pair", 1, 1)), (1, 1), (2, 1), (5, 1))

    def holds(self, value, groups=None):
        found = solution_holds(self.GROUPS if groups is None else groups, value)
        self.assertIs(type(found), bool)
        return found

    def test_examples(self):
        self.assertTrue(solution_holds((((0, 1),),), ((0, ("Int",)), (1, ("Int",)))))
        self.assertFalse(solution_holds((((0, 1),),), ((0, 0), (1, 1))))

    def test_solutions(self):
        self.assertTrue(self.holds(self.PLAIN))
        for shape in (INT, 0, 7, 199, ("Box", 1), broad(300), boxes(50)):
            pair = ("Pair", shape, shape)
            self.assertTrue(self.holds(((0, pair), (1, shape), (2, shape), (5, shape))))
            self.assertFalse(self.holds(((0, pair), (1, shape), (2, shape), (5, ("->", shape, shape)))))

    def test_variables_are_replaced_at_once(self):
        self.assertTrue(self.holds(((0, 1), (1, 0)), (((0, 0),), ((1, 1),))))
        self.assertFalse(self.holds(((0, ("Box", 1)), (1, INT)), (((0, ("Box", INT)),), ((1, INT),))))
        self.assertTrue(self.holds(((0, ("Box", 0)), (1, 0)), (((0, ("Box", 1)),),)))

    def test_pairs_must_be_just_those_of_the_variables(self):
        plain = self.PLAIN
        for at in range(4):
            self.assertFalse(self.holds(plain[:at] + plain[at + 1:]))
            self.assertFalse(self.holds(plain[:at + 1] + plain[at:]))
        self.assertFalse(self.holds((*plain, (6, 1))))
        self.assertFalse(self.holds((*plain[:3], (3, 1), plain[3])))
        self.assertFalse(self.holds(plain[::-1]))
        self.assertFalse(self.holds((plain[1], plain[0], *plain[2:])))
        self.assertFalse(self.holds(()))

    def test_no_groups(self):
        self.assertTrue(self.holds((), ()))
        self.assertTrue(self.holds((), ((),)))
        self.assertTrue(self.holds((), (((INT, INT),),)))
        self.assertFalse(self.holds((), (((INT, BOOL),),)))
        self.assertFalse(self.holds(((0, 0),), ()))

    def test_truths_are_no_numbers(self):
        self.assertTrue(self.holds(((1, 1),), (((1, 1),),)))
        self.assertFalse(self.holds(((True, 1),), (((1, 1),),)))
        self.assertFalse(self.holds(((1, True),), (((1, 1),),)))
        self.assertFalse(self.holds(((1, ("Box", True)),), (((1, 1),),)))
        self.assertFalse(self.holds(((False, 0),), (((0, 0),),)))

    def test_other_values(self):
        plain = self.PLAIN
        for value in [*ODD_VALUES, list(plain), tuple(list(pair) for pair in plain), dict(plain), "plain", plain[0]]:
            self.assertFalse(self.holds(value))
        for value in [*ODD_VALUES, 200, -1]:
            self.assertFalse(self.holds(((0, value),), (((0, 0),),)))
            self.assertFalse(self.holds(((value, 0),), (((7, 7),),)))
            self.assertFalse(self.holds((value,), (((0, 0),),)))
        for pair in ((0,), (0, 0, 0), (), [0, 0], "ab", {0: 0}):
            self.assertFalse(self.holds((pair,), (((0, 0),),)))

    def test_large_solutions(self):
        for shape in (broad(201), broad(600), boxes(30), boxes(59), boxes(3000, INT)):
            self.assertTrue(self.holds(((0, shape), (1, shape)), (((0, 1),),)))
            self.assertFalse(self.holds(((0, shape), (1, ("Box", shape))), (((0, 1),),)))
            self.assertTrue(self.holds(((0, ("Box", shape)), (1, shape)), (((0, ("Box", 1)),),)))

    def test_sides_of_many_nodes(self):
        both = ("Pair", ("Pair", 0, 0), ("Pair", 0, 0))
        groups = tuple(((both, both),) for _ in range(60))
        self.assertTrue(self.holds(((0, broad(900)),), groups))
        self.assertTrue(self.holds(((0, boxes(50)),), (((boxes(5000, 0), boxes(5000, 0)),),)))

    def test_what_solve_returns_holds(self):
        source = random.Random(9)
        for _ in range(400):
            groups = random_groups(source, 2, names=4)
            if not has_solution(groups):
                continue
            solution = solve(groups)
            self.assertTrue(self.holds(solution, groups))
            for at, (name, _) in enumerate(solution):
                other = (*solution[:at], (name, ("Odd", name)), *solution[at + 1:])
                alone = all(name not in variables(side) or one == other_side
                            for group in groups for one, other_side in group for side in (one, other_side))
                self.assertEqual(self.holds(other, groups), alone)


if __name__ == "__main__":
    unittest.main()
