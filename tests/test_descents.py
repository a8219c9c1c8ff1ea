import random
import unittest
from time import perf_counter

from compiler import preorder
from evaluator import count, parts_of
from makes import HOLE, LISTS, call, fun, make, number, op, word
from samples import ODD_VALUES, Raises
from shapelang.books import book_error
from shapelang.descents import calls_of, descent_holds, ends, find_descent, joined
from shapelang.errors import NoDefinition, NotPlain
from shapelang.readers import parse_book

D = (LISTS,)
NO_INDEXES = (-1, 9, True, False, None, "0", (0,), [0], {}, 10 ** 70)
LABELS = ("same", "less")


def book(text):
    return parse_book("data List a is Nil, Cons a (List a); data P a b is P1 a b; " + text)


def traced_calls(book, index):
    """The graphs of a plain definition, by words and their scopes instead of places."""
    name, _, expression = book[1][index]
    many = 0
    scope = {}
    while expression[0] == "fun":
        scope[expression[1]] = (many, "same")
        many += 1
        expression = expression[2]
    found = []

    def words(pattern, whole, outer=True):
        if pattern[0] == "word":
            return {pattern[1]: whole if outer or whole is None else (whole[0], "less")}
        inner = [words(part, whole, False) for part in pattern[2:]] if pattern[0] == "make" else []
        return {key: value for one in inner for key, value in one.items()}

    def go(part, inside):
        head, arguments = part, []
        while head[0] == "call":
            head, arguments = head[1], [head[2], *arguments]
        if head == word(name) and name not in inside and len(arguments) == many:
            found.append(tuple(inside.get(one[1]) or () if one[0] == "word" else () for one in arguments))
        if head[0] == "word":
            for one in arguments:
                go(one, inside)
        elif part[0] == "let":
            go(part[2], inside)
            go(part[3], {**inside, part[1]: inside.get(part[2][1]) if part[2][0] == "word" else None})
        elif part[0] == "match":
            go(part[1], inside)
            whole = inside.get(part[1][1]) if part[1][0] == "word" else None
            for pattern, one in part[2]:
                go(one, {**inside, **words(pattern, whole)})
        else:
            for one in parts_of(part):
                go(one, inside)

    go(expression, scope)
    return tuple(found)


def closure(graphs):
    """All graphs that these give, joined in any order."""
    found = set(graphs)
    while True:
        more = {joined(one, other) for one in found for other in found} - found
        if not more:
            return found
        found |= more


def endless(graph):
    return joined(graph, graph) == graph and all(item != (at, "less") for at, item in enumerate(graph))


def items(many):
    return [(), *[(at, label) for at in range(many) for label in LABELS]]


def random_graph(source, many):
    return tuple(source.choice(items(many)) for _ in range(many))


def book_of_graphs(graphs, many):
    """A book with one definition that has these graphs: sums of calls within matches."""
    names = [f"x{at}" for at in range(many)]

    def argument(item):
        return number(1) if item == () else word(f"{names[item[0]]}" if item[1] == "same" else f"y{item[0]}")

    body = number(0)
    for graph in graphs:
        one = word("f")
        for item in graph:
            one = call(one, argument(item))
        body = op("+", body, one) if body != number(0) else one
    for at in range(many):
        body = ("match", word(names[at]), ((make("Cons", ("any",), word(f"y{at}")), body),))
    for at in range(many)[::-1]:
        body = fun(names[at], body)
    return D, (("f", None, body),)


class Joined(unittest.TestCase):
    def test_some(self):
        same, less = (0, "same"), (0, "less")
        for one, other, right in ((((1, "same"), less), ((1, "same"), less), (less, (1, "less"))), ((), (), ()), (((),), (same,), ((),)), ((same,), ((),), ((),)),
                                  ((same,), (same,), (same,)), ((same,), (less,), (less,)), ((less,), (same,), (less,)), ((less,), (less,), (less,)),
                                  (((1, "same"), ()), ((1, "less"), (0, "same")), ((), (1, "same")))):
            self.assertEqual(joined(one, other), right)
            self.assertEqual(joined(one, other), right)

    def test_the_order_of_joining_three(self):
        source = random.Random(501)
        for _ in range(500):
            many = source.randrange(1, 4)
            one, two, three = [random_graph(source, many) for _ in range(3)]
            self.assertEqual(joined(joined(one, two), three), joined(one, joined(two, three)))


class Plain(Raises, unittest.TestCase):
    def test_indexes(self):
        whole = book("f is fun x -> f x;")
        for function in (calls_of, find_descent, ends):
            for value in (*NO_INDEXES, 1):
                caught = self.refused(NoDefinition, {"value": value}, function, whole, value)
                self.assertIs(caught.value, value)
        for value in NO_INDEXES:
            self.refused(NoDefinition, {"value": value}, descent_holds, whole, value, ("loop", (0,)))

    def test_what_is_plain(self):
        for text in ("f is 1", "f is f", "f is fun x -> x", "f is fun x -> fun y -> fun z -> f x y z", "f is fun x -> f (f x)", "f is fun x -> match x with | y -> f y end",
                     "f is fun x -> let f = 1 in f", "f is fun x -> let y = f x in y + f y", "f is fun f -> f", "f is match f with | f -> f end",
                     "g is fun x -> fun y -> x; f is fun x -> g x (f x)", "c is 7; f is fun x -> c + f c", "f is f + f", "f is fun x -> fun x -> f x x"):
            whole = book(text + ";")
            self.assertIsInstance(calls_of(whole, len(whole[1]) - 1), tuple, text)

    def test_what_is_not_plain(self):
        for text in ("f is fun a -> fun b -> fun c -> fun d -> 1", "f is let x = fun y -> y in 1", "f is fun x -> hole", "f is fun x -> x + hole", "f is fun x -> x 1",
                     "f is fun x -> f", "f is fun x -> f x x", "f is fun x -> f x 1 2", "f is fun x -> Cons f Nil", "f is fun x -> (let g = f in 1)", "f is fun x -> (f x) (f x)",
                     "f is f 1", "f is fun x -> fun y -> f x", "f is fun f -> f 1", "f is fun x -> (match x with | _ -> f end) x", "f is fun x -> match x with | y -> fun z -> 1 end",
                     "f is (Nil) 1", "f is 1 2", "f is fun x -> let f = 1 in f 1", "f is fun x -> f (x 1)"):
            self.refused(NotPlain, {"index": 0}, calls_of, book(text + ";"), 0)
        for text, index in (("g is fun x -> fun y -> x; f is fun x -> g x", 1), ("g is fun x -> x; f is fun x -> g x x", 1), ("c is 7; f is c 1", 1),
                            ("g is fun x -> x 1; f is fun x -> g x", 0), ("g is hole; h is g; f is h", 0), ("a is 1; g is hole; h is a + g; f is h + a", 1),
                            ("g is hole; a is 1; f is a 1", 2)):
            whole = book(text + ";")
            last = len(whole[1]) - 1
            for function in (calls_of, find_descent, ends):
                self.refused(NotPlain, {"index": index}, function, whole, last)
            for value in ODD_VALUES:
                self.refused(NotPlain, {"index": index}, descent_holds, whole, last, value)
        self.assertEqual(calls_of(book("g is hole; f is fun x -> f x;"), 1), (((0, "same"),),))

    def test_books_that_are_not_accepted(self):
        whole = book("f is fun x -> 1 + True + f (f x);")
        self.assertEqual(calls_of(whole, 0), (((),), ((0, "same"),)))


class Graphs(unittest.TestCase):
    def test_some(self):
        for text, graphs in (
            ("fun x -> match x with | Nil -> 0 | Cons _ y -> 1 + f y end", (((0, "less"),),)), ("fun x -> fun y -> f y x", (((1, "same"), (0, "same")),)),
            ("fun x -> fun x -> f x x", (((1, "same"), (1, "same")),)), ("f + f", ((), ())), ("fun x -> f (f (f x))", (((),), ((),), ((0, "same"),))),
            ("fun x -> let y = x in let z = y in f z", (((0, "same"),),)), ("fun x -> let y = x + 0 in f y", (((),),)), ("fun x -> let x = 1 in f x", (((),),)),
            ("fun x -> match x with | y -> f y end", (((0, "same"),),)), ("fun x -> match x with | P1 y z -> f y + f z end", (((0, "less"),), ((0, "less"),))),
            ("fun x -> match x with | P1 y _ -> match y with | z -> f z | P1 a b -> f a end end", (((0, "less"),), ((0, "less"),))),
            ("fun x -> match P1 x x with | P1 y _ -> f y end", (((),),)), ("fun x -> match x with | P1 x _ -> f x end", (((0, "less"),),)),
            ("fun x -> fun y -> match x with | P1 y z -> f y z end", (((0, "less"), (0, "less")),)), ("fun x -> match 1 with | x -> f x end", (((),),)),
            ("fun x -> match x with | P1 (P1 a b) c -> let d = b in f d + f c end", (((0, "less"),), ((0, "less"),))),
            ("fun x -> let y = match x with | P1 a _ -> a end in f y", (((),),)), ("fun x -> let f = x in f", ()), ("fun x -> 1", ()),
            ("fun x -> fun y -> f (f 1 x) y", (((), (1, "same")), ((), (0, "same")))),
        ):
            whole = book(f"f is {text};")
            self.assertEqual(calls_of(whole, 0), graphs, text)
            self.assertEqual(calls_of(whole, 0), graphs)
            self.assertEqual(traced_calls(whole, 0), graphs)

    def test_random_bodies(self):
        source = random.Random(511)
        many = 0
        while many < 150:
            parameters = source.randrange(4)
            names = [source.choice("xyz") for _ in range(parameters)]

            def body(depth, words):
                kind = source.choice(["call", "call", "let", "match", "word", "number"]) if depth else source.choice(["word", "number"])
                if kind == "call":
                    found = word("f")
                    for _ in range(parameters):
                        found = call(found, body(source.choice([0, 0, depth - 1]), words))
                    return op("+", found, body(depth - 1, words))
                if kind == "let":
                    name = source.choice("xyzf" if source.random() < 0.1 else "xyz")
                    return ("let", name, body(source.choice([0, 0, depth - 1]), words), body(depth - 1, words if name == "f" else [*words, name]))
                if kind == "match":
                    rows = tuple((pattern, body(depth - 1, [*words, *[name for name in "xyz" if repr(word(name)) in repr(pattern)]])) for pattern in (
                        source.choice([word("x"), make("Cons", word("y"), word("z")), make("P1", make("P1", word("x"), ("any",)), word("z"))]) for _ in range(2)))
                    return ("match", body(source.choice([0, 0, 0, depth - 1]), words), rows)
                return word(source.choice(words)) if kind == "word" and words else number(1)

            expression = body(3, names)
            for name in names[::-1]:
                expression = fun(name, expression)
            whole = (book("")[0], (("f", None, expression),))
            if book_error(whole) is not None:
                continue
            try:
                found = calls_of(whole, 0)
            except NotPlain:
                self.assertIn("'let', 'f'", repr(expression))
                continue
            many += 1
            self.assertEqual(found, traced_calls(whole, 0))
            verdict = find_descent(whole, 0)
            self.assertTrue(descent_holds(whole, 0, verdict))


class Descents(unittest.TestCase):
    def test_some(self):
        for text, right in (
            ("fun x -> f x", ("loop", (0,))), ("f", ("loop", (0,))), ("1", ("descent", ())), ("fun x -> match x with | Cons _ y -> f y end", ("descent", (((0, "less"),),))),
            ("fun x -> fun y -> match x with | Cons _ z -> f y z end", None), ("fun x -> fun y -> f y x", ("loop", (0, 0))),
        ):
            whole = book(f"f is {text};")
            found = find_descent(whole, 0)
            if right is not None:
                self.assertEqual(found, right)
            self.assertTrue(descent_holds(whole, 0, found))
            self.assertEqual(ends(whole, 0), found[0] == "descent")
            self.assertEqual(find_descent(whole, 0), found)

    def test_books_of_graphs(self):
        source = random.Random(521)
        seen = {"descent": 0, "loop": 0}
        while min(seen.values()) < 40:
            many = source.randrange(1, 4)
            graphs = [random_graph(source, many) for _ in range(source.randrange(1, 4))]
            whole = book_of_graphs(graphs, many)
            self.assertIsNone(book_error(whole))
            self.assertEqual(calls_of(whole, 0), tuple(graphs))
            found = find_descent(whole, 0)
            everything = closure(graphs)
            self.assertEqual(found[0] == "loop", any(endless(graph) for graph in everything))
            seen[found[0]] += 1
            if found[0] == "descent":
                self.assertEqual(found[1], tuple(sorted(everything)))
            else:
                whole_graph = graphs[found[1][0]]
                for at in found[1][1:]:
                    whole_graph = joined(whole_graph, graphs[at])
                self.assertTrue(endless(whole_graph))
            self.assertTrue(descent_holds(whole, 0, found))
            self.assertEqual(ends(whole, 0), found[0] == "descent")
            # Other descents have more graphs.
            more = closure([*graphs, random_graph(source, many)])
            right = not any(endless(graph) for graph in more)
            self.assertEqual(descent_holds(whole, 0, ("descent", tuple(sorted(more)))), right)
            if len(more) > 1:
                lost = sorted(more - {source.choice(sorted(more))})
                right = set(graphs) <= set(lost) and closure(lost) == set(lost) and not any(endless(graph) for graph in lost)
                self.assertEqual(descent_holds(whole, 0, ("descent", tuple(lost))), right)
            loop = tuple(source.randrange(len(graphs)) for _ in range(source.randrange(1, 4)))
            one = graphs[loop[0]]
            for at in loop[1:]:
                one = joined(one, graphs[at])
            self.assertEqual(descent_holds(whole, 0, ("loop", loop)), endless(one))

    def test_any_value(self):
        whole = book("f is fun x -> match x with | Cons _ y -> f y end; g is fun x -> fun y -> g x y;")
        graph = ((0, "less"),)
        for value in (*ODD_VALUES, ("descent",), ("descent", (graph,), 0), ["descent", (graph,)], ("descent", [graph]), ("descent", ()), ("descent", (graph, graph)),
                      ("descent", (((0, "same"),),)), ("descent", (((0, "same"),), graph)), ("descent", (((False, "less"),),)), ("descent", (((0, "more"),),)),
                      ("descent", (((1, "less"),),)), ("descent", ([(0, "less")],)), ("descent", (([0, "less"],),)), ("descent", (graph, ((),))), ("descent", ((), graph)),
                      ("descent", (((0,),),)), ("descent", (((0, "less", 0),),)), ("descent", (((0, "less"), ()),)), ("descent", None), ("loop", ()), ("loop", (0,)),
                      ("loop", 0), ("loop", None), ("Descent", (graph,)), (("descent",), (graph,)), ("descent", (((0, ["less"]),),))):
            self.assertFalse(descent_holds(whole, 0, value), value)
        for value in (("descent", (graph,)), ("descent", (((),), graph))):
            self.assertEqual(descent_holds(whole, 0, value), value[1][0] == graph)
        for value, right in ((("loop", (0,)), True), (("loop", (0, 0)), True), (("loop", (False,)), False), (("loop", (1,)), False), (("loop", (-1,)), False),
                             (("loop", [0]), False), (("loop", (0, None)), False), (("loop", ("0",)), False), (("loop", (0,) * 1500), True)):
            self.assertEqual(descent_holds(whole, 1, value), right, value)
        rest = book("f is fun x -> fun y -> match x with | Cons _ z -> f z y end;")
        graph = ((0, "less"), (1, "same"))
        self.assertTrue(descent_holds(rest, 0, ("descent", (graph,))))
        self.assertTrue(descent_holds(rest, 0, ("descent", (((0, "less"), ()), graph))))
        self.assertFalse(descent_holds(rest, 0, ("descent", (graph, ((0, "less"), ())))))

    def test_ends(self):
        whole = book("""a is fun x -> match x with | Cons _ y -> a y | _ -> 0 end; b is fun x -> b x; c is fun x -> a x; d is fun x -> match x with | Cons _ y -> c x + d y end;
            e is fun x -> d x + b x; g is fun x -> fun y -> match x with | Nil -> y | Cons a b -> g b (g b y) end; h is e Nil;""")
        self.assertEqual([ends(whole, at) for at in range(7)], [True, False, True, True, False, True, False])
        self.assertEqual([find_descent(whole, at)[0] for at in range(7)], ["descent", "loop", "descent", "descent", "descent", "descent", "descent"])

    def test_great_descents_take_no_time(self):
        graphs = [((1, "same"), (2, "same"), (0, "less")), ((1, "less"), (0, "same"), (2, "same")), ((0, "less"), (0, "same"), ()), ((), (2, "less"), (1, "same"))]
        whole = book_of_graphs(graphs, 3)
        self.assertIsNone(book_error(whole))
        start = perf_counter()
        found = find_descent(whole, 0)
        self.assertTrue(descent_holds(whole, 0, found))
        everything = [(one, other, third) for one in items(3) for other in items(3) for third in items(3)]
        falling = tuple(sorted(graph for graph in everything if all(item == () or item[1] == "less" for item in graph)))
        descent_holds(whole, 0, ("descent", falling))
        descent_holds(whole, 0, ("descent", tuple(sorted(everything))[:200]))
        self.assertLess(perf_counter() - start, 1)
        self.assertEqual(count(whole[1][0][2]), len(preorder(whole[1][0][2])))


if __name__ == "__main__":
    unittest.main()
