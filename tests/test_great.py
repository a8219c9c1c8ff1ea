"""Great inputs: their answers are right, and do not take long."""

import random
import unittest
from unittest import mock

from makes import funs
from samples import BOOL, INT, Raises, boxes, broad, random_groups
from shapelang import binding
from shapelang.binding import LONG, bound
from shapelang.clashes import find_clash, is_clash
from shapelang.equations import has_solution, solution_holds, solve
from shapelang.errors import BadText, NoMeeting, NoSolution, TooLarge
from shapelang.grammar import FIRSTS, rules_for
from shapelang.readers import parse_book, parse_definition, parse_expression, parse_pattern, parse_shape
from shapelang.schemes import Scheme
from shapelang.shapes import common, count_nodes, meeting, normal, put_in
from shapelang.tokens import tokens_of, tokens_one_by_one

CHAIN = tuple(((name, boxes(28, name + 1)),) for name in range(199))
LARGE = {"limit": 200}


class Equations(Raises, unittest.TestCase):
    def test_a_chain_of_towers(self):
        source = random.Random(1)
        ring = (*CHAIN, ((199, boxes(28, 0)),))
        for _ in range(10):
            self.assertTrue(has_solution(CHAIN))
            self.refused(TooLarge, LARGE, solve, CHAIN)
            self.assertFalse(has_solution(ring))
            self.assertTrue(has_solution(ring[1:]))
            self.assertTrue(has_solution((*CHAIN, *CHAIN)))
            self.assertTrue(has_solution((*CHAIN, ((199, INT),))))
            self.assertFalse(has_solution((*CHAIN, ((199, INT),), ((0, BOOL),))))
            self.assertFalse(has_solution((*CHAIN, ((7, boxes(27, 8)),))))
            self.assertFalse(has_solution((((0, 5),), *CHAIN)))
            mixed = list(ring)
            source.shuffle(mixed)
            self.assertFalse(has_solution(tuple(mixed)))
            self.assertTrue(has_solution(tuple(mixed[:-1])))
        short = tuple(ring[at:at + 20] for at in range(0, 200, 20))
        groups = tuple(tuple(equation for group in part for equation in group) for part in short)
        self.assertEqual(find_clash(groups), tuple(range(10)))
        self.assertTrue(is_clash(groups, tuple(range(10))))

    def test_chains_that_end(self):
        for many, inner in ((28, 1), (28, INT), (29, INT)):
            groups = (((0, boxes(many, 5)),), ((5, inner),))
            solution = solve(groups)
            self.assertEqual(solution[0], (0, boxes(many, inner)))
            self.assertTrue(solution_holds(groups, solution))
        self.refused(TooLarge, LARGE, solve, (((0, boxes(29, 1)),), ((1, ("Box", 2)),)))
        groups = tuple(((name, ("P", name + 1, name + 1)),) for name in range(199))
        self.assertTrue(has_solution(groups))
        self.assertFalse(has_solution((*groups, ((199, 0),))))
        self.refused(TooLarge, LARGE, solve, groups)
        self.assertEqual(count_nodes(solve(groups[:6])[0][1]), 127)
        self.refused(TooLarge, LARGE, solve, groups[:7])

    def test_many_unions(self):
        equations = [(("P", name, name + 1), ("P", name + 1, name + 2)) for name in range(0, 198)]
        groups = tuple(tuple(equations[at:at + 20]) for at in range(0, 198, 20))
        self.assertEqual(solve(groups), tuple((name, 0) for name in range(200)))
        self.assertTrue(solution_holds(groups, tuple((name, boxes(100, INT)) for name in range(200))))
        self.assertFalse(solution_holds(groups, tuple((name, boxes(100 + name // 199, INT)) for name in range(200))))


class Meetings(Raises, unittest.TestCase):
    def test_meetings_of_about_two_hundred_nodes(self):
        for nodes in range(197, 204):
            # One has the left part with so many nodes, the other one the right part.
            left = (nodes - 1) // 2
            one, other = ("P", broad(left, 5), 7), ("P", 3, broad(nodes - 1 - left, 6))
            for first, second in ((one, other), (other, one)):
                if nodes <= 200:
                    found = meeting(first, second)
                    self.assertEqual(found, normal(("P", broad(left, 5), broad(nodes - 1 - left, 6))))
                    self.assertEqual(count_nodes(found), nodes)
                    self.assertEqual(Scheme(first) & Scheme(second), Scheme(found))
                    self.assertIn(found, Scheme(first))
                    self.assertEqual(common(found, first), normal(first))
                else:
                    self.refused(TooLarge, LARGE, meeting, first, second)
                    self.refused(TooLarge, LARGE, lambda: Scheme(first) & Scheme(second))

    def test_put_in(self):
        for nodes in range(198, 204):
            arguments = (("P", 0, 1), broad(100), broad(nodes - 101))
            if nodes <= 200:
                self.assertEqual(count_nodes(put_in(*arguments)), nodes)
            else:
                self.refused(TooLarge, LARGE, put_in, *arguments)

    def test_no_meeting(self):
        for shape in (broad(200, INT), ("P", broad(199, 4))):
            with self.assertRaises(NoMeeting):
                Scheme(shape) & Scheme(("Q", 0))
        self.assertIsNone(meeting(("P", broad(99, INT), broad(99, 5)), ("P", 0, broad(99, BOOL)[:-1])))
        self.assertIsNone(meeting(("P", broad(99), broad(99)), ("P", 0, ("T", 0, 1, 2))))

    def test_common(self):
        one, other = broad(200, INT), broad(200, BOOL)
        self.assertEqual(common(one, other), broad(200, 0))
        self.assertEqual(common(one, one), one)
        self.assertEqual(common(boxes(29, INT), boxes(29, BOOL)), boxes(29))
        self.assertEqual(common(boxes(29, INT), boxes(28, BOOL)), boxes(28))


class ManySteps(Raises, unittest.TestCase):
    """Where the quick way would need too many steps, the other one finds the same."""

    def answer(self, function, *arguments):
        try:
            return function(*arguments)
        except (NoSolution, TooLarge) as error:
            return type(error), vars(error)

    def test_few_steps(self):
        source = random.Random(3)
        seen = set()
        for _ in range(400):
            groups = random_groups(source, source.randrange(1, 6), depth=3)
            shapes = [side for group in groups for equation in group for side in equation][:2]
            pairs = [(has_solution, (groups,)), (solve, (groups,)), (meeting, tuple(shapes))][:2 + (len(shapes) == 2)]
            right = [self.answer(function, *arguments) for function, arguments in pairs]
            for most in (1, 2, 5):
                with mock.patch.object(binding, "MOST_STEPS", most):
                    seen.add(bound([equation for group in groups for equation in group]) == LONG)
                    self.assertEqual([self.answer(function, *arguments) for function, arguments in pairs], right)
        self.assertEqual(seen, {True, False})

    def test_sizes_are_the_same(self):
        for most in (1, binding.MOST_STEPS):
            with mock.patch.object(binding, "MOST_STEPS", most):
                for shape in (boxes(29, INT), boxes(29, 5), broad(200, INT), broad(200, 5)):
                    groups = (((0, ("Box", 7)),), ((("Box", 7), shape),)) if shape[0] == "Box" else (((0, shape),),)
                    self.assertEqual(dict(solve(groups))[0], shape)
                    self.assertEqual(meeting(shape, 3), normal(shape))
                    self.assertEqual(meeting(3, shape), normal(shape))
                for shape in (boxes(30, INT), boxes(30, 5), broad(201, INT), broad(201, 5)):
                    self.refused(TooLarge, LARGE, solve, (((0, shape),),))
                # Boxes around what the other one has in the place of 1.
                self.assertEqual(meeting(("P", boxes(14, 1), 1), ("P", 0, boxes(14, INT))), ("P", boxes(28, INT), boxes(14, INT)))
                self.refused(TooLarge, LARGE, meeting, ("P", boxes(15, 1), 1), ("P", 0, boxes(14, INT)))
                self.refused(TooLarge, LARGE, meeting, ("Q", broad(120, INT), 0), ("Q", 0, broad(120, INT)))


class Texts(Raises, unittest.TestCase):
    def bad(self, index, read, text):
        self.refused(BadText, {"index": index}, read, text)

    def test_brackets(self):
        for many in (1990, 12000):
            for read, inner, right in ((parse_expression, "7", ("number", 7)), (parse_shape, "b", 1), (parse_pattern, "_", ("any",))):
                whole = "(" * many + inner + ")" * many
                self.assertEqual(read(whole), right)
                self.bad(2 * many, read, whole[:-1])
                self.bad(many, read, "(" * many)
                self.bad(2 * many + 1, read, whole + ")")
                self.bad(many, read, "(" * many + ")")
                self.bad(many - 1, read, "(" * (many - 1) + "," + whole)
                self.assertEqual(read(whole.replace("(", "( ").replace(")", "\n) ")), right)
            self.assertEqual(parse_definition("x is " + "(" * many + "1" + ")" * many), ("x", None, ("number", 1)))
            self.bad(2 * many + 3, parse_book, "x is " + "(" * many + "1" + ")" * many)

    def test_funs(self):
        for many in (19, 20, 1990):
            text = "fun x -> " * many
            if many == 19:
                self.assertEqual(parse_expression(text + "hole"), funs(19))
            else:
                self.refused(TooLarge, {"limit": 60}, parse_expression, text + "hole")
            self.bad(3 * many, parse_expression, text)
            self.bad(3 * many, parse_expression, text + "-> x")
            self.bad(3 * many - 1, parse_expression, text[:-4] + "x")

    def test_long_rows(self):
        self.refused(TooLarge, {"limit": 60}, parse_expression, "1 + " * 3000 + "1")
        self.refused(TooLarge, {"limit": 60}, parse_expression, "f " * 3000)
        self.bad(3000, parse_expression, "1 * " * 1500)
        self.bad(2 * 1500 + 1, parse_expression, "1 * " * 1500 + "1 )")
        self.refused(TooLarge, LARGE, parse_shape, "a -> " * 3000 + "a")

    def test_tokens(self):
        """The quick way and the plain one divide texts alike."""
        source = random.Random(2)
        signs = "abXY09()|_,;+*<=-> \n" * 3 + "!#>./:'\"\t\\[]{}~^&$@?"
        for _ in range(3000):
            text = "".join(source.choice(signs) for _ in range(source.randrange(12)))
            self.assertEqual(tokens_of(text), tokens_one_by_one(text), repr(text))
        for text, tokens in (("a->b", ["a", "->", "b"]), ("a- >b", ["a", "-", ">", "b"]), ("--->", ["-", "-", "->"]),
                             ("->>", ["->", ">"]), ("a\tb", ["a", "\t", "b"]), ("x\xe9", ["x", "\xe9"]), ("", []), (" \n ", []),
                             ("- >", ["-", ">"]), ("-\n>", ["-", ">"]), ("a_b", ["a", "_", "b"]), ("->->", ["->", "->"])):
            self.assertEqual(tokens_of(text), tokens)

    def test_what_the_rules_begin_with(self):
        rules = rules_for("<book>")

        def firsts(step):
            return {step} if step not in rules else {first for form in rules[step] for first in firsts(form[0])}

        for name in ("<shape>", "<pattern>", "<expression>"):
            self.assertLessEqual(rules_for(name).items(), rules.items())
        self.assertEqual({name: set(found) for name, found in FIRSTS.items()},
                         {name: firsts(name) for name in rules if name != "<book>"})


if __name__ == "__main__":
    unittest.main()
