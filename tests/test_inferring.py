import random
import unittest
from itertools import product

from makes import (ANY, DATAS, HOLE, KNOWN, NIL, SMALL_DATAS, YES, call, fun, funs, make, number, op, random_expression,
                   sums, word)
from samples import BOOL, INT, ODD_VALUES, Raises, boxes
from shapelang.clashes import all_clashes, all_repairs, find_clash, is_clash, is_repair
from shapelang.equations import has_solution, solve
from shapelang.errors import Clash, NoPlace, TooLarge, TooMany
from shapelang.inferring import clashes_of, derivation_holds, derive, groups_of, hole_scheme, infer, repairs_of
from shapelang.places import has_room
from shapelang.programs import binder_of, count_places, expression_error, part_at, replaced
from shapelang.readers import parse_expression, parse_shape
from shapelang.schemes import Scheme
from shapelang.shapes import count_nodes, instance_by, normal, variables_of

VARIABLES = {"limit": 199}
NODES = {"limit": 200}
MAKER = ("Both", 2, (("Both2", 1, ("->", 0, ("Both", 0, 1))),))


def arrow(one, other):
    return ("->", one, other)


def inferred(text, own=None):
    return str(infer(DATAS, KNOWN, parse_expression(text), own=own))


def samples(seed, many=200, depth=5):
    """Expressions that fit and have not too many places, accepted or not."""
    source = random.Random(seed)
    found = [random_expression(source, source.randrange(1, depth)) for _ in range(many)]
    return [one for one in found if count_places(one) <= 40]


def accepted(seed, many=200):
    return [one for one in samples(seed, many) if has_solution(groups_of(DATAS, KNOWN, one))]


def lets(body):
    """An expression with 18 lets, which have 198 variables, around a body."""
    for _ in range(18):
        body = ("let", "x", word("nine"), body)
    return body


NINE = (*KNOWN, ("nine", parse_shape("a -> b -> c -> d -> e -> f -> g -> h -> i")))


class Groups(Raises, unittest.TestCase):
    def groups(self, expression, *groups, known=KNOWN, own=None):
        self.assertEqual(groups_of(SMALL_DATAS + (MAKER,), known, expression, own=own), groups)

    def test_parts_without_equations(self):
        self.groups(number(7), ((0, INT),))
        self.groups(HOLE, ())
        self.groups(("match", HOLE, ()), (), ())
        self.groups(("match", HOLE, ((ANY, HOLE), (word("x"), HOLE))),
                    ((2, 1), (4, 1), (3, 0), (5, 0)), (), (), (), (), ())

    def test_op(self):
        for sign in "+-*":
            self.groups(op(sign, HOLE, HOLE), ((1, INT), (2, INT), (0, INT)), (), ())
        for sign in "<=":
            self.groups(op(sign, HOLE, HOLE), ((1, INT), (2, INT), (0, BOOL)), (), ())
        self.groups(op("+", op("<", HOLE, HOLE), HOLE), ((1, INT), (4, INT), (0, INT)),
                    ((2, INT), (3, INT), (1, BOOL)), (), (), ())

    def test_fun_call_and_let(self):
        self.groups(fun("x", fun("y", word("x"))), ((0, arrow(3, 1)),), ((1, arrow(4, 2)),), ((2, 3),))
        self.groups(call(HOLE, HOLE), ((1, arrow(2, 0)),), (), ())
        self.groups(("let", "x", number(), word("x")), ((0, 2),), ((1, INT),), ((2, 1),))
        self.groups(("let", "x", fun("x", word("x")), word("x")), ((0, 3),), ((1, arrow(4, 2)),), ((2, 4),), ((3, 1),))

    def test_makes(self):
        self.groups(NIL, ((0, ("List", 1)),))
        self.groups(YES, ((0, BOOL),))
        self.groups(make("Cons", NIL, NIL), ((1, 3), (2, ("List", 3)), (0, ("List", 3))), ((1, ("List", 4)),),
                    ((2, ("List", 5)),))
        self.assertEqual(groups_of((MAKER,), (), make("Both2", HOLE, HOLE)),
                         (((1, 4), (2, arrow(3, ("Both", 3, 4))), (0, ("Both", 3, 4))), (), ()))

    def test_matches(self):
        row = (make("Cons", word("x"), word("x")), word("x"))
        self.groups(("match", NIL, (row, (NIL, HOLE))),
                    ((2, 1), (6, 1), (5, 0), (7, 0)), ((1, ("List", 8)),),
                    ((3, 9), (4, ("List", 9)), (2, ("List", 9))), (), (), ((5, 4),), ((6, ("List", 10)),), ())
        self.groups(("match", word("one"), ((word("x"), fun("y", word("x"))),)),
                    ((2, 1), (3, 0)), ((1, INT),), (), ((3, arrow(5, 4)),), ((4, 2),))

    def test_free_words(self):
        self.groups(word("one"), ((0, INT),))
        self.groups(word("id"), ((0, arrow(1, 1)),))
        self.groups(call(word("pick"), word("id")), ((1, arrow(2, 0)),), ((1, arrow(3, arrow(4, 3))),),
                    ((2, arrow(5, 5)),))
        self.groups(word("swap"), ((0, ("Both", 1, ("Both", 2, 1))),), known=(("swap", ("Both", 9, ("Both", 0, 9))),))
        self.groups(fun("one", op("+", word("one"), word("id"))), ((0, arrow(4, 1)),), ((2, INT), (3, INT), (1, INT)),
                    ((2, 4),), ((3, arrow(5, 5)),))

    def test_own(self):
        self.groups(word("own"), ((0, 0),), own="own")
        self.groups(call(word("own"), word("one")), ((1, arrow(2, 0)),), ((1, 0),), ((2, INT),), own="own")
        self.groups(fun("own", word("own")), ((0, arrow(2, 1)),), ((1, 2),), own="own")
        self.groups(("let", "own", word("own"), word("own")), ((0, 2),), ((1, 0),), ((2, 1),), own="own")
        self.groups(word("one"), ((0, INT),), own="own")

    def test_two_hundred_variables(self):
        for body, many in ((HOLE, 199), (NIL, 200), (word("id"), 200), (word("pick"), 201), (make("Nil2"), 201)):
            arguments = (DATAS[:5] + (("Two", 2, (("Nil2",),)),), NINE, lets(body))
            if many <= 200:
                self.assertEqual(max(variables_in(groups_of(*arguments)) | {36}), many - 1 if body != HOLE else 198)
                found = derive(*arguments)
                self.assertTrue(derivation_holds(*arguments, found))
                self.assertEqual(infer(*arguments), Scheme(found[0]))
                self.assertEqual((clashes_of(*arguments), repairs_of(*arguments)), ((), ((),)))
                continue
            for function in (groups_of, infer, derive, clashes_of, repairs_of):
                self.refused(TooLarge, VARIABLES, function, *arguments)
            for value in (*ODD_VALUES, (0,) * 37, ()):
                self.refused(TooLarge, VARIABLES, derivation_holds, *arguments, value)

    def test_variables_with_a_hole(self):
        self.assertEqual(str(hole_scheme(DATAS, NINE, lets(word("pick")), 36)), "a")
        whole = lets(make("Cons", word("pick"), HOLE))
        self.assertEqual(str(hole_scheme(DATAS, NINE, whole, 36)), "a")
        self.refused(TooLarge, VARIABLES, hole_scheme, DATAS, NINE, whole, 38)
        self.refused(NoPlace, {"value": 39}, hole_scheme, DATAS, NINE, whole, 39)

    def test_too_many_variables_come_ahead_of_clashes(self):
        whole = lets(call(number(), word("pick")))
        for function in (groups_of, infer, derive, clashes_of, repairs_of):
            self.refused(TooLarge, VARIABLES, function, DATAS, NINE, whole)


def variables_in(groups):
    return {name for group in groups for equation in group for side in equation for name in variables_of(side)}


class Schemes(Raises, unittest.TestCase):
    def test_schemes(self):
        for text, right in (
            ("1", "Int"), ("hole", "a"), ("Nil", "List a"), ("Cons 1 Nil", "List Int"), ("fun x -> x", "a -> a"),
            ("fun x -> fun y -> x", "a -> b -> a"), ("fun f -> fun x -> f (f x)", "(a -> a) -> a -> a"),
            ("fun x -> x + 1", "Int -> Int"), ("fun x -> x < 1", "Int -> Bool"), ("id id", "a -> a"),
            ("pick one", "a -> Int"), ("let f = fun x -> x in f", "a -> a"), ("let f = fun x -> x in f 1", "Int"),
            ("fun x -> match x with | Nil -> 0 | Cons y _ -> y end", "List Int -> Int"),
            ("fun x -> match x with | Both a b -> Both b a end", "Pair a b -> Pair b a"), ("match 1 with end", "a"),
            ("fun x -> match x with | y -> y end", "a -> a"), ("fun f -> fun x -> Cons (f x) Nil", "(a -> b) -> a -> List b"),
            ("Both Nil True", "Pair (List a) Bool"), ("Do (fun x -> Nil)", "Work a b"), ("all", "List a"),
            ("match hole with | True -> 1 end", "Int"),
        ):
            self.assertEqual(inferred(text), right, text)

    def test_own(self):
        for text, right in (
            ("own", "a"), ("own + 1", "Int"), ("fun x -> own x", "a -> b"),
            ("fun x -> match x with | Nil -> 0 | Cons _ y -> 1 + own y end", "List a -> Int"),
            ("fun x -> own (own x)", "a -> a"), ("fun own -> own", "a -> a"), ("Cons 1 own", "List Int"),
        ):
            self.assertEqual(inferred(text, "own"), right, text)
        for text in ("own own", "own 1", "Cons own own", "fun x -> own"):
            with self.assertRaises(Clash):
                inferred(text, "own")

    def test_clashes(self):
        for expression in samples(31, 400):
            groups = groups_of(DATAS, KNOWN, expression)
            clash = find_clash(groups)
            if clash is not None:
                for function in (infer, derive):
                    self.refused(Clash, {"places": clash}, function, DATAS, KNOWN, expression)
                self.assertTrue(is_clash(groups, clash))
        self.refused(Clash, {"places": (0, 1)}, infer, (), (), call(number(), HOLE))
        self.refused(Clash, {"places": (1, 2, 3)}, infer, (), (), fun("x", call(word("x"), word("x"))))

    def test_the_scheme_is_that_of_the_plain_solution(self):
        for expression in accepted(32):
            groups = groups_of(DATAS, KNOWN, expression)
            plain = dict(solve(groups))
            self.assertEqual(infer(DATAS, KNOWN, expression), Scheme(plain.get(0, 0)))
            shapes = tuple(plain.get(place, place) for place in range(len(groups)))
            found = derive(DATAS, KNOWN, expression)
            self.assertEqual(variables_of(("all", *found)), tuple(range(len(variables_of(("all", *found))))))
            self.assertEqual(found, normal(("all", *shapes))[1:])
            self.assertTrue(derivation_holds(DATAS, KNOWN, expression, found))
            self.assertTrue(derivation_holds(DATAS, KNOWN, expression, shapes))

    def test_variables_of_all_places_together(self):
        self.assertEqual(derive((), (), ("match", HOLE, ((ANY, fun("x", HOLE)),))), (arrow(0, 1), 2, 2, arrow(0, 1), 1))
        self.assertEqual(derive((), (), call(HOLE, HOLE)), (0, arrow(1, 0), 1))

    def test_too_many_levels(self):
        deep = arrow(INT, INT)
        for _ in range(27):
            deep = ("List", deep)
        known = (("deep", deep),)
        once, twice = make("Cons", word("deep"), NIL), make("Cons", make("Cons", word("deep"), NIL), NIL)
        for part, right in ((once, True), (twice, False)):
            for expression, text in ((("let", "x", part, number()), "Int"), (("match", part, ((ANY, HOLE),)), "a")):
                if right:
                    self.assertEqual(str(infer(DATAS, known, expression)), text)
                for function in () if right else (infer, derive):
                    self.refused(TooLarge, NODES, function, DATAS, known, expression)
        shapes = (("List", ("List", deep)), ("List", deep), deep, ("List", deep), ("List", ("List", deep)))
        self.assertTrue(derivation_holds(DATAS, known, twice, shapes))
        self.assertFalse(derivation_holds(DATAS, known, twice, (*shapes[:4], ("List", deep))))
        with self.assertRaises(Clash):
            infer(DATAS, known, op("+", twice, YES))

    def test_too_many_variables_for_all_functions_alike(self):
        """Lets with eleven variables each, and what has some more: at the bound, and just beyond it."""
        pieces = (number(), HOLE, fun("y", HOLE), NIL, fun("y", fun("z", word("y"))), make("Cons", HOLE, NIL), call(fun("y", HOLE), HOLE), call(word("id"), HOLE),
                  ("match", NIL, ((make("Cons", ANY, word("y")), fun("z", word("y"))),)))
        bodies = (number(), HOLE, fun("y", HOLE), word("nine"), call(HOLE, HOLE), make("Cons", HOLE, NIL))
        seen = {}
        for nines, first, body in product((15, 16, 17), pieces, bodies):
            for part in [word("nine")] * nines + [first]:
                body = ("let", "x", part, body)
            if not has_room(body):
                continue
            arguments = (DATAS, NINE, body)
            try:
                groups = groups_of(*arguments)
            except TooLarge:
                for function in (infer, derive):
                    self.refused(TooLarge, VARIABLES, function, *arguments)
                self.refused(TooLarge, VARIABLES, derivation_holds, *arguments, None)
                self.refused(TooLarge, VARIABLES, clashes_of, *arguments)
                seen["large"] = seen.get("large", 0) + 1
            else:
                many = len(groups) + max([0, *[variable - len(groups) + 1 for group in groups for side in group for variable in variables_of(("all", *side))]])
                self.assertEqual(len(derive(*arguments)), len(groups))
                seen[many] = seen.get(many, 0) + 1
        self.assertIn(200, seen)
        self.assertGreater(seen["large"], 5)

    def test_variables_are_one_level_and_one_node(self):
        deep = 3
        for _ in range(28):
            deep = ("List", deep)
        # A tree of arrows with 199 nodes, and one with 197.
        trees = {1: 0, 2: arrow(0, 0)}
        for leaves in range(3, 101):
            trees[leaves] = arrow(trees[leaves // 2], trees[leaves - leaves // 2])
        for shape, fits in ((deep, 1), (trees[100], 1), (("List", trees[100]), 0), (trees[99], 3)):
            known = (("it", shape),)
            part = word("it")
            for lists in range(5):
                expression = ("let", "x", part, HOLE)
                if lists <= fits:
                    self.assertEqual(str(infer(DATAS, known, expression)), "a")
                else:
                    for function in (infer, derive):
                        self.refused(TooLarge, NODES, function, DATAS, known, expression)
                part = make("Cons", part, NIL)

    def test_many_nodes(self):
        for nodes in (195, 196, 197):
            known = (("most", wide_shape(nodes)), ("few", ("->", INT, INT)))
            expression = ("let", "x", make("Both", word("most"), word("few")), number())
            if nodes <= 196:
                self.assertEqual(count_nodes(derive(DATAS, known, expression)[1]), 4 + nodes)
                self.assertEqual(str(infer(DATAS, known, expression)), "Int")
            for function in () if nodes <= 196 else (infer, derive):
                self.refused(TooLarge, NODES, function, DATAS, known, expression)


def constants(shape):
    """The shape with a Name of its own in the place of each variable."""
    if not isinstance(shape, tuple):
        return (f"V{shape}",)
    return (shape[0], *[constants(part) for part in shape[1:]])


def put(shape, shapes):
    if not isinstance(shape, tuple):
        return shapes[shape]
    return (shape[0], *[put(part, shapes) for part in shape[1:]])


def blank(source, expression):
    """The expression with holes in the place of some numbers and words."""
    kind = expression[0]
    if kind in ("number", "word", "hole"):
        return HOLE if source.random() < 0.6 else expression
    if kind == "match":
        return ("match", blank(source, expression[1]), tuple((pattern, blank(source, part)) for pattern, part in expression[2]))
    first = {"make": 2, "fun": 2, "call": 1, "let": 2, "op": 2}[kind]
    return (*expression[:first], *[blank(source, part) for part in expression[first:]])


class Derivations(unittest.TestCase):
    def holds(self, expression, value):
        return derivation_holds(DATAS, KNOWN, expression, value)

    def test_as_the_groups_tell(self):
        """With shapes that have no variables, the groups tell whether these are a derivation."""
        source = random.Random(40)
        choices = [INT, BOOL, ("List", INT), ("List", BOOL), arrow(INT, BOOL), arrow(INT, INT), ("Pair", INT, BOOL), ("Work", INT, INT)]
        seen = {True: 0, False: 0}
        while min(seen.values()) < 800:
            expression = blank(source, random_expression(source, source.randrange(1, 4)))
            groups = groups_of(DATAS, KNOWN, expression)
            try:
                plain = derive(DATAS, KNOWN, expression)
            except Clash:
                plain = [INT for _ in groups]
            given = {variable: source.choice(choices) for variable in variables_of(("all", *plain))}
            shapes = [put(shape, given) for shape in plain]
            for _ in range(source.randrange(3)):
                at = source.randrange(len(shapes))
                shapes[at] = source.choice([*choices, *shapes])
            right = has_solution((*groups, *[((place, shape),) for place, shape in enumerate(shapes)]))
            seen[right] += 1
            self.assertEqual(derivation_holds(DATAS, KNOWN, expression, tuple(shapes)), right, (expression, shapes))

    def test_signs(self):
        for sign, gives in (("+", INT), ("-", INT), ("*", INT), ("<", BOOL), ("=", BOOL)):
            for shapes in [(one, two, three) for one in (INT, BOOL, 0) for two in (INT, BOOL, 0) for three in (INT, BOOL, 0)]:
                self.assertEqual(self.holds(op(sign, HOLE, HOLE), shapes), shapes == (gives, INT, INT))

    def test_instances(self):
        source = random.Random(41)
        choices = [INT, BOOL, 0, 7, ("List", 3), arrow(0, 1), boxes(40, 5)]
        for expression in accepted(42, 300):
            found = derive(DATAS, KNOWN, expression)
            shapes = [source.choice(choices) for _ in range(200)]
            self.assertTrue(self.holds(expression, tuple(put(shape, shapes) for shape in found)))
            self.assertFalse(self.holds(expression, found[:-1]))
            self.assertFalse(self.holds(expression, (*found, 0)))
            self.assertFalse(self.holds(expression, list(found)))

    def test_one_part_otherwise(self):
        source = random.Random(43)
        seen = set()
        for expression in accepted(44, 400):
            found = list(derive(DATAS, KNOWN, expression))
            groups = groups_of(DATAS, KNOWN, expression)
            place = source.randrange(len(found))
            found[place] = source.choice([INT, BOOL, 0, 1, 190, ("List", 0), ("List", INT), arrow(0, 0), arrow(0, 1)])
            told = tuple((number, constants(shape)) for number, shape in enumerate(found))
            right = has_solution((*groups, told))
            seen.add(right)
            self.assertEqual(self.holds(expression, tuple(found)), right)
        self.assertEqual(seen, {True, False})

    def test_variables_stand_for_themselves(self):
        self.assertTrue(self.holds(word("id"), (arrow(5, 5),)))
        self.assertFalse(self.holds(word("id"), (arrow(5, 6),)))
        self.assertFalse(self.holds(word("id"), (5,)))
        self.assertFalse(self.holds(number(), (0,)))
        self.assertFalse(self.holds(fun("x", word("x")), (arrow(0, 1), 1)))
        self.assertTrue(self.holds(call(word("id"), HOLE), (1, arrow(1, 1), 1)))
        self.assertFalse(self.holds(call(word("id"), HOLE), (0, arrow(1, 1), 1)))

    def test_any_value(self):
        for value in [*ODD_VALUES, None, INT]:
            self.assertFalse(self.holds(number(), value), value)
        for value in [*ODD_VALUES, 200, -1, ("int",), ("Int", True)]:
            if value != 0:
                self.assertFalse(self.holds(number(), (value,)), value)
        self.assertFalse(self.holds(word("id"), (arrow(True, 1),)))
        self.assertFalse(self.holds(word("id"), (arrow(1, True),)))
        self.assertTrue(self.holds(word("id"), (arrow(1, 1),)))
        self.assertFalse(self.holds(number(), [INT]))

    def test_places_without_equations(self):
        expression = ("match", HOLE, ())
        for value in ((0, 0), (INT, arrow(0, 1)), (boxes(50), 7)):
            self.assertTrue(self.holds(expression, value))
            self.assertFalse(self.holds(expression, (*value[:1], True)))
        self.assertTrue(self.holds(HOLE, (boxes(300),)))

    def test_own(self):
        expression = fun("x", call(word("own"), word("x")))
        for value, right in (((arrow(0, 1), 1, arrow(0, 1), 0), True), ((arrow(0, 1), 1, arrow(0, 0), 0), False),
                             ((arrow(INT, 1), 1, arrow(INT, 1), INT), True), ((arrow(0, 1), 1, arrow(2, 1), 2), False)):
            self.assertEqual(derivation_holds((), (), expression, value, own="own"), right)


class Holes(Raises, unittest.TestCase):
    def scheme(self, text, place, own=None):
        return str(hole_scheme(DATAS, KNOWN, parse_expression(text), place, own=own))

    def test_schemes(self):
        for text, right in (
            ("1 + 2", ("a", "Int", "Int")), ("1 + True", ("a", "Clash", "Int")),
            ("fun x -> x", ("a", "a")), ("fun x -> x + id x", ("a", "a", "Int", "Int", "Int -> Int", "Int")),
            ("match Nil with | Cons x _ -> x | Nil -> 1 end", ("a", "List Int", None, None, None, "Int", None, "a")),
            ("let f = 1 in f True", ("a", "Bool -> a", "a", "Bool -> a", "Clash")),
        ):
            expression = parse_expression(text)
            for place, scheme in enumerate(right):
                if scheme is None:
                    self.refused(NoPlace, {"value": place}, hole_scheme, DATAS, KNOWN, expression, place)
                elif scheme == "Clash":
                    with self.assertRaises(Clash):
                        self.scheme(text, place)
                else:
                    self.assertEqual(self.scheme(text, place), scheme, (text, place))

    def test_own(self):
        self.assertEqual(self.scheme("fun x -> own hole + 1", 4, "own"), "a")
        self.assertEqual(self.scheme("fun x -> own (x + 1)", 4, "own"), "Int")
        self.assertEqual(self.scheme("own", 0, "own"), "a")

    def test_no_place(self):
        expression = parse_expression("match hole with | Cons x y -> x end")
        for place in (None, True, False, -1, 6, "0", (0,), [], {}, 2, 3, 4, 10 ** 70):
            caught = self.refused(NoPlace, {"value": place}, hole_scheme, DATAS, KNOWN, expression, place)
            self.assertIs(caught.value, place)
        clash = parse_expression("match 1 + True with | Cons x y -> x end")
        self.refused(NoPlace, {"value": 4}, hole_scheme, DATAS, KNOWN, clash, 4)

    def test_clashes_of_the_rest(self):
        many = 0
        for expression in samples(51, 150):
            for place in range(count_places(expression)):
                if not is_expression(expression, place):
                    self.refused(NoPlace, {"value": place}, hole_scheme, DATAS, KNOWN, expression, place)
                    continue
                clash = find_clash(groups_of(DATAS, KNOWN, replaced(expression, place, HOLE)))
                if clash is not None:
                    many += 1
                    self.refused(Clash, {"places": clash}, hole_scheme, DATAS, KNOWN, expression, place)
        self.assertGreater(many, 100)

    def test_meetings(self):
        """What is put into a hole is accepted there just if both schemes have a meeting."""
        parts = [number(), YES, NIL, word("id"), word("pick"), word("one"), fun("q", word("q")), make("Both", NIL, YES),
                 fun("q", fun("w", call(word("q"), word("w"))))]
        many = 0
        for expression in samples(52, 150):
            for place in range(count_places(expression)):
                try:
                    scheme = hole_scheme(DATAS, KNOWN, expression, place)
                except (Clash, NoPlace):
                    continue
                for part in parts:
                    whole = replaced(expression, place, part)
                    names = [number for number in range(place, place + count_places(part))
                             if part_at(whole, number)[0] == "word"]
                    free = [number for number in names if part_at(whole, number)[1] in dict(KNOWN)]
                    if all(binder_of(whole, number) == ("free",) for number in free):
                        many += 1
                        fits = has_solution(groups_of(DATAS, KNOWN, whole))
                        other = infer(DATAS, KNOWN, part)
                        self.assertEqual(fits, has_meeting(scheme, other))
        self.assertGreater(many, 1000)

    def test_too_large(self):
        deep = INT
        for _ in range(28):
            deep = ("List", deep)
        known = (("deep", deep),)
        twice = make("Cons", make("Cons", word("deep"), NIL), NIL)
        self.refused(TooLarge, NODES, infer, DATAS, known, ("let", "x", twice, HOLE))
        self.assertEqual(str(hole_scheme(DATAS, known, ("let", "x", twice, HOLE), 6)), "a")
        self.refused(TooLarge, NODES, hole_scheme, DATAS, known, make("Cons", make("Cons", word("deep"), NIL), HOLE), 4)
        self.assertEqual(hole_scheme(DATAS, known, make("Cons", word("deep"), HOLE), 2).shape, ("List", deep))


def is_expression(expression, place):
    """Whether the place is no pattern: a number may stand there."""
    return expression_error(DATAS, KNOWN, replaced(expression, place, number())) is None


def has_meeting(one, other):
    return has_solution((((one.shape, put(other.shape, range(100, 200))),),))


class Clashes(Raises, unittest.TestCase):
    def test_clashes_and_repairs(self):
        source = random.Random(61)
        many = 0
        for expression in samples(62, 100):
            groups = groups_of(DATAS, KNOWN, expression)
            try:
                clashes = clashes_of(DATAS, KNOWN, expression)
            except TooMany:
                self.refused(TooMany, {"limit": 50}, repairs_of, DATAS, KNOWN, expression)
                continue
            repairs = repairs_of(DATAS, KNOWN, expression)
            self.assertEqual((clashes, repairs), (all_clashes(groups), all_repairs(groups)))
            self.assertTrue(all(set(clash) & set(repair) for clash in clashes for repair in repairs))
            for clash in clashes[:3]:
                many += 1
                self.assertTrue(is_clash(groups, clash))
                self.assertFalse(is_clash(groups, clash[1:]))
            self.assertTrue(is_repair(groups, source.choice(repairs)))
        self.assertGreater(many, 30)

    def test_own(self):
        expression = op("+", word("own"), call(word("own"), number()))
        self.assertEqual(clashes_of((), (), expression, own="own"), ((0, 2, 3),))
        self.assertEqual(repairs_of((), (), call(word("own"), word("own")), own="own"), ((0,), (1,)))

    def test_too_many(self):
        parts = [make("Cons", number(), make("Cons", YES, NIL)) for _ in range(6)]
        expression = parts[0]
        for part in parts[1:]:
            expression = make("Both", part, expression)
        for function in (clashes_of, repairs_of):
            self.refused(TooMany, {"limit": 50}, function, DATAS, KNOWN, expression)


def wide_shape(nodes):
    """A shape of functions and lists with just so many nodes and few levels."""
    if nodes == 1:
        return INT
    if nodes == 2:
        return ("List", INT)
    left = (nodes - 1) // 2
    return ("->", wide_shape(left), wide_shape(nodes - 1 - left))


if __name__ == "__main__":
    unittest.main()
