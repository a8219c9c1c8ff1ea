import random
import unittest
from itertools import product

from samples import BOOL, INT, ODD_VALUES, Raises, boxes, broad, random_groups
from shapelang.clashes import find_clash
from shapelang.equations import solve
from shapelang.errors import BadChain, TooLarge
from shapelang.papers import chain_shows, paper_holds, paper_of

PAIRS = (((0, ("Box", 1)), (2, ("Pair", 0, INT))), ((0, ("Box", INT)), (("->", 2, 3), ("->", INT, 4))), ((INT, INT),))
CLASH = (((0, INT),), ((1, BOOL),), ((0, 1),), ((0, INT),))
WHOLE = (("given", 0, 0), ("given", 1, 0))


class Chains(Raises, unittest.TestCase):
    def shows(self, chain, *equations):
        self.assertEqual(chain_shows(PAIRS, chain), equations)

    def bad(self, index, *chain):
        self.refused(BadChain, {"index": index}, chain_shows, PAIRS, chain)

    def test_given(self):
        self.shows(())
        self.shows((("given", 0, 1),), (2, ("Pair", 0, INT)))
        self.shows((("given", 2, 0), ("given", 1, 1)), (INT, INT), (("->", 2, 3), ("->", INT, 4)))
        for row in [("given", 3, 0), ("given", -1, 0), ("given", 0, 2), ("given", 0, -1), ("given", 2, 1),
                    ("given", False, 0), ("given", True, 0), ("given", 0, False), ("given", 0, True),
                    ("given", [0], 0), ("given", 0, None), ("given", (0,), 0), ("given", "0", 0), ("given", None, 0)]:
            self.bad(0, row)

    def test_turned(self):
        self.shows((("given", 0, 0), ("turned", 0), ("turned", 1)),
                   (0, ("Box", 1)), (("Box", 1), 0), (0, ("Box", 1)))
        for row in (1, 2, -1, False, None, "0", (0,), [0]):
            self.bad(1, ("given", 0, 0), ("turned", row))
        self.bad(2, *WHOLE, ("turned", True))
        self.bad(0, ("turned", 0))

    def test_joined(self):
        self.shows((*WHOLE, ("turned", 0), ("joined", 2, 1)),
                   (0, ("Box", 1)), (0, ("Box", INT)), (("Box", 1), 0), (("Box", 1), ("Box", INT)))
        self.shows((("given", 2, 0), ("joined", 0, 0)), (INT, INT), (INT, INT))
        self.bad(2, *WHOLE, ("joined", 0, 1))
        for pair in ((3, 1), (2, 3), (-1, 1), (2, -1), (2, True), (True, 1), (None, 1), (2, None)):
            self.bad(3, *WHOLE, ("turned", 0), ("joined", *pair))

    def test_joined_takes_true_for_no_number(self):
        groups = (((0, ("Box", 1)),), ((("Box", True), 2),))
        self.refused(BadChain, {"index": 2}, chain_shows, groups, (*WHOLE, ("joined", 0, 1)))

    def test_part(self):
        chain = (*WHOLE, ("turned", 0), ("joined", 2, 1))
        self.assertEqual(chain_shows(PAIRS, (*chain, ("part", 3, 0)))[-1], (1, INT))
        self.assertEqual(chain_shows(PAIRS, (("given", 1, 1), ("part", 0, 1)))[-1], (3, 4))
        for row in (("part", 3, 1), ("part", 3, -1), ("part", 3, False), ("part", 3, None), ("part", 4, 0),
                    ("part", 0, 0), ("part", 2, 0), ("part", -1, 0), ("part", True, 0)):
            self.bad(4, *chain, row)
        self.bad(1, ("given", 2, 0), ("part", 0, 0))
        unlike = (((("A", 0), ("B", 0)),), ((("A", 0), ("A", 0, 1)),), ((("->", 0, 1), ("A", 0, 1)),))
        for number in range(3):
            self.refused(BadChain, {"index": 1}, chain_shows, unlike, (("given", number, 0), ("part", 0, 0)))

    def test_what_is_no_chain(self):
        for value in [value for value in ODD_VALUES if not isinstance(value, tuple)]:
            self.refused(BadChain, {"index": None}, chain_shows, PAIRS, value)
        self.refused(BadChain, {"index": None}, chain_shows, PAIRS, [("given", 0, 0)])
        for row in [*ODD_VALUES, ["given", 0, 0], ("given", 0), ("given", 0, 0, 0), ("turned", 0, 0), ("turned",),
                    ("joined", 0), ("joined", 0, 0, 0), ("part", 0), ("part", 0, 0, 0), ("shown", 0), ("Given", 0, 0),
                    (["given"], 0, 0), (("given",), 0, 0), (0, 0, 0), (None, 0)]:
            self.bad(1, ("given", 0, 0), row, ("given", 9, 9))


class Papers(Raises, unittest.TestCase):
    def found(self, groups):
        clash = find_clash(groups)
        paper = paper_of(groups, clash)
        self.assertTrue(paper_holds(groups, clash, paper))
        self.assertEqual(paper_of(groups, clash), paper)
        shown = chain_shows(groups, paper[0])
        self.assertLessEqual({row[1] for row in paper[0] if row[0] == "given"}, set(clash))
        return clash, paper, shown

    def test_unlike_tuples(self):
        for one, other in ((INT, BOOL), (("A", 0), ("A", 0, 1)), (("A",), ("A", 0)), (("->", 0, 1), ("P", 0, 1)),
                           (("A", ("B", 5, 5)), ("A", ("C", 5, 5))), (("P", 0, 0), ("P", ("A",), ("B",)))):
            _, (_, ring, _), shown = self.found((((one, other),),))
            self.assertEqual(ring, ())
            self.assertNotEqual((shown[-1][0][0], len(shown[-1][0])), (shown[-1][1][0], len(shown[-1][1])))
            self.found((((7, one),), ((8, 7),), ((8, other),)))

    def test_rings(self):
        for equations in ([(0, ("Box", 0))], [(("P", 0, 1), ("P", ("Box", 1), ("Box", 0)))],
                          [(0, ("P", ("Int",), ("Box", ("Box", 1)))), (1, 2), (2, ("->", ("A", 0, 3), 3))],
                          [(0, ("Box", ("Box", 1))), (("Box", 1), ("Box", 0))],
                          [(("Box", 0), 1), (1, ("Box", ("Box", 0)))],
                          [(0, ("A", 1)), (1, ("A", 2)), (2, ("A", 3)), (4, ("A", 5)), (3, ("A", 4)), (5, 1)]):
            for groups in [(tuple(equations),), tuple((equation,) for equation in equations)]:
                _, (_, ring, _), _ = self.found(groups)
                self.assertNotEqual(ring, ())

    def test_random_groups(self):
        source = random.Random(11)
        rings = set()
        many = 0
        while many < 700:
            groups = random_groups(source, source.randrange(1, 7), source.randrange(1, 7), source.randrange(1, 4))
            if find_clash(groups) is not None:
                many += 1
                rings.add(len(self.found(groups)[1][1]))
        self.assertLessEqual({0, 1, 2}, rings)

    def test_great_groups(self):
        source = random.Random(12)
        equations = [(name * 77 % 200, (name + 1) * 77 % 200) for name in range(199)] + [(0, INT), (123, BOOL)]
        equations += [(source.randrange(200), source.randrange(200)) for _ in range(1399)]
        source.shuffle(equations)
        groups = tuple(tuple(equations[at:at + 20]) for at in range(0, 1600, 20))
        self.found(groups)
        chain = [(boxes(2, name), boxes(3, name + 1)) for name in range(19)]
        self.found(((*chain, (19, boxes(8, 0))),))
        self.found((tuple((name, boxes(28, (name + 1) % 20)) for name in range(20)),))
        deep = [((name, boxes(1, name + 1)), (100 + name, boxes(1, 101 + name))) for name in range(80)]
        whole = tuple(part for pair in deep for part in pair)
        groups = tuple(whole[at:at + 20] for at in range(0, 160, 20)) + (((0, 100), (80, INT), (180, BOOL)),)
        clash = find_clash(groups)
        self.assertEqual(clash, tuple(range(9)))
        self.refused(TooLarge, {"limit": 200}, paper_of, groups, clash)
        one = (tuple(whole[:20]) + ((0, 100),),)
        self.found((*one, ((10, INT), (110, BOOL))))

    def test_too_large_solutions(self):
        for many in (28, 29, 30, 31):
            tower = tuple((name, ("Box", name + 1)) for name in range(many))
            groups = (tower[:20], tower[20:], ((0, BOOL),))
            clash = find_clash(groups)
            self.assertEqual(clash, (0, 2))
            self.found(groups)
            groups = (tower[:20], tower[20:], ((many, BOOL),), ((many, INT), (0, 0)))
            clash = (2, 3)
            self.assertTrue(paper_holds(groups, clash, paper_of(groups, clash)))
            groups = (tower[:20], (*tower[20:], (many, 0)))
            if many <= 20:
                self.found(groups)
        groups = ((*[(name, ("Box", name + 1)) for name in range(18)], (18, boxes(11, 19))), ((19, ("Box", 0)),))
        self.assertEqual(solve(groups[:1])[0][1], boxes(29, 19))
        self.found(groups)
        groups = ((*[(name, ("Box", name + 1)) for name in range(18)], (18, boxes(12, 19))), ((19, ("Box", 0)),))
        self.refused(TooLarge, {"limit": 200}, paper_of, groups, (0, 1))
        groups = (((0, ("T", 1, 2, 3)), (1, broad(100, 50)), (2, broad(98, 50)), (3, 4)), ((4, ("Box", 0)),))
        self.found(groups)
        groups = (((0, ("T", 1, 2, 3)), (1, broad(100, 50)), (2, broad(99, 50)), (3, 4)), ((4, ("Box", 0)),))
        self.refused(TooLarge, {"limit": 200}, paper_of, groups, (0, 1))


class PapersOfOthers(unittest.TestCase):
    chain = (("given", 0, 0), ("turned", 0), ("given", 2, 0), ("joined", 1, 2), ("given", 1, 0), ("joined", 3, 4))
    solutions = (((0, BOOL), (1, BOOL)), ((0, INT), (1, INT)), ((0, INT), (1, BOOL)))

    def holds(self, chain, ring, solutions, clash=(0, 1, 2)):
        return paper_holds(CLASH, clash, (chain, ring, solutions))

    def test_a_paper(self):
        self.assertTrue(self.holds(self.chain, (), self.solutions))
        self.assertFalse(paper_holds(CLASH, (1, 2, 3), (self.chain, (), self.solutions)))
        other = (("given", 3, 0), *self.chain[1:])
        solutions = (self.solutions[1], self.solutions[2], self.solutions[0])
        self.assertTrue(paper_holds(CLASH, (1, 2, 3), (other, (), solutions)))
        self.assertFalse(self.holds(other, (), self.solutions))

    def test_chains_that_are_not_right(self):
        for number in range(len(self.chain)):
            self.assertFalse(self.holds(self.chain[:number], (), self.solutions))
            self.assertFalse(self.holds(self.chain[:number] + self.chain[number + 1:], (), self.solutions))
        more = (*self.chain, ("turned", 5))
        self.assertTrue(self.holds(more, (), self.solutions))
        self.assertTrue(self.holds((("given", 1, 0), ("given", 0, 0), ("turned", 1), ("given", 2, 0), ("joined", 2, 3),
                                    ("joined", 4, 0)), (), self.solutions))
        self.assertFalse(self.holds((*self.chain, ("given", 0, 0)), (), self.solutions))
        self.assertFalse(self.holds((*self.chain, ("given", 3, 0)), (), self.solutions))
        self.assertFalse(self.holds(("x", *self.chain), (), self.solutions))
        self.assertFalse(self.holds(list(self.chain), (), self.solutions))
        self.assertFalse(self.holds(self.chain, (0,), self.solutions))
        for ring in [value for value in ODD_VALUES if value != ()]:
            self.assertFalse(self.holds(self.chain, ring, self.solutions))

    def test_solutions_of_others(self):
        first, second, third = self.solutions
        for solutions in ((second, first, third), (first, second), (first, second, third, third), (), None,
                          [first, second, third], (first, second, None), (first, second, ((0, INT),)),
                          (first, second, ((1, BOOL), (0, INT))), (first, second, ((0, INT), (True, BOOL))),
                          (first, second, (*third, (2, INT))), (((0, BOOL), (1, INT)), second, third)):
            self.assertFalse(self.holds(self.chain, (), solutions))
        loose = (((0, ("Box", 0)),), ((1, 1), (1, ("A", 0))), ((0, ("A", 1)),))
        chain = (("given", 0, 0),)
        self.assertTrue(paper_holds(loose, (0,), (chain, (0,), ((),))))
        self.assertFalse(paper_holds(loose, (0,), (chain, (0,), (((1, 1),),))))
        ring = (("given", 1, 1), ("given", 2, 0))
        for shape in (5, boxes(40, 5), ("A", 1), INT):
            solutions = (((0, ("A", shape)), (1, shape)), ((0, shape), (1, ("A", shape))))
            self.assertTrue(paper_holds(loose, (1, 2), (ring, (0, 1), solutions)))
            self.assertFalse(paper_holds(loose, (1, 2), (ring, (0, 1), solutions[::-1])))

    def test_rings_of_others(self):
        groups = (((0, ("A", 1)), (2, ("B", 0, 1)), (1, ("A", 2)), (("A", 1), 0), (3, 0)), ((4, INT),))
        chain = tuple(("given", 0, index) for index in range(5))

        def holds(*ring):
            return paper_holds(groups, (0,), (chain, ring, ((),)))

        for ring in ((0, 2, 1), (2, 1, 0), (1, 0, 2), (2, 1), (1, 2), (0, 2, 1, 2, 1), (0, 2, 1, 0, 2, 1)):
            self.assertTrue(holds(*ring), ring)
        for ring in ((), (0,), (1,), (0, 1, 2), (0, 2), (3, 2, 1), (0, 2, 1, 3), (4, 2, 1), (0, 2, 1, 5), (-5, 2, 1),
                     (False, 2, True), (0, 2, True), (0, 2, None), ((0, 2, 1),)):
            self.assertFalse(holds(*ring), ring)
        self.assertFalse(paper_holds(groups, (0,), (chain, [0, 2, 1], ((),))))
        # What the rows have on the left, and the variables of what they have on the right.
        shown = [(0, {1}), (2, {0, 1}), (1, {2}), (None, {0}), (3, None)]
        for many in (1, 2, 3, 4):
            for rows in product(range(5), repeat=many):
                pairs = [shown[row] for row in rows]
                right = all(one is not None and other is not None for one, other in pairs) and all(
                    pairs[at][0] in pairs[at - 1][1] for at in range(many))
                self.assertEqual(holds(*rows), right, rows)
        self.assertFalse(paper_holds(groups, (0,), ((*chain, ("given", 1, 0)), (0, 2, 1), ((),))))
        self.assertFalse(paper_holds(groups, (0,), (chain, (0, 2, 1), ())))

    def test_a_ring_beside_a_last_unlike_equation(self):
        groups = (((0, ("A", 0)), (INT, BOOL)),)
        chain = (("given", 0, 0), ("given", 0, 1))
        for ring, right in (((), True), ((0,), True), ((1,), False), ((0, 0), True)):
            self.assertEqual(paper_holds(groups, (0,), (chain, ring, ((),))), right)
        self.assertFalse(paper_holds(groups, (0,), (chain[::-1], (), ((),))))

    def test_rows_that_belong_to_no_ring(self):
        groups = (((0, 0), (0, ("A", 0)), (("A", 0), ("A", 0)), (("A", 0), 0), (1, 0), (("A", 1), ("B", 0))),)
        chain = tuple(("given", 0, index) for index in range(6))
        for row in range(6):
            self.assertEqual(paper_holds(groups, (0,), (chain, (row,), ((),))), row == 1)
            last = chain[:row + 1]
            self.assertEqual(paper_holds(groups, (0,), (last, (), ((),))), row == 5)

    def test_any_value(self):
        for value in [*ODD_VALUES, (self.chain, ()), (self.chain, (), self.solutions, ()),
                      [self.chain, (), self.solutions], (None, (), self.solutions), ((), (), ())]:
            self.assertFalse(paper_holds(CLASH, (0, 1, 2), value))


if __name__ == "__main__":
    unittest.main()
