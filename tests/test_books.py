import random
import unittest

from makes import DATAS, LISTS, VOID, chain_datas, funs, number, op, random_expression, sums, word
from samples import ODD_VALUES, Raises, broad
from shapelang.books import anew, book_error, changed, uses_of, verdicts
from shapelang.errors import BadBook, Clash, NoDefinition, TooLarge
from shapelang.inferring import infer
from shapelang.programs import datas_error, expression_error
from shapelang.readers import parse_book, parse_definition
from shapelang.shapes import instance_by, normal

D = (LISTS, VOID)
LEN = parse_definition("len is fun x -> match x with | Nil -> 0 | Cons _ y -> 1 + len y end")
ONE = parse_definition("one is len (Cons 5 Nil)")
BOOK = (D, (LEN, ONE))
NO_INDEXES = (-1, 2, True, False, None, "0", (0,), [0], {}, 10 ** 70)


def book(text):
    return parse_book("data List a is Nil, Cons a (List a); data Void; " + text)


class Errors(Raises, unittest.TestCase):
    def test_books(self):
        for value in ((D, ()), ((), ()), BOOK, (D, (LEN,)), book("x is x; y is x y;"), (D, tuple((f"w{at}", None, number(at)) for at in range(8)))):
            self.assertIsNone(book_error(value))
            self.assertIsNone(book_error(value))

    def test_what_is_no_book(self):
        for value in (*ODD_VALUES, (D,), (D, (), ()), [D, ()], (D, []), (D, None), (D, [LEN]), (D, {}), (D, 0)):
            if value != ((), ()):
                self.assertEqual(book_error(value), (None, "book"), value)
        for value in ((7, ()), (None, ()), ([], ()), ((LISTS, LISTS), ()), (((),), (LEN,)), ((LISTS,) * 7, ()), (None, (None,) * 9)):
            self.assertIsNotNone(datas_error(value[0]))
            self.assertEqual(book_error(value), (None, "datas"))

    def test_how_many(self):
        many = tuple((f"w{at}", None, number(at)) for at in range(9))
        self.assertEqual(book_error((D, many)), (None, "many"))
        self.assertEqual(book_error((D, (None,) * 9)), (None, "many"))
        self.assertIsNone(book_error((D, many[:8])))
        self.assertEqual(book_error((D, (None,) * 8)), (0, "definition"))

    def test_what_is_no_definition(self):
        for value in (*ODD_VALUES, LEN[:2], (*LEN, None), list(LEN), ("fun", None, number()), ("Len", None, number()), ("", None, number()),
                      ("toolong99", None, number()), (None, None, number()), (["len"], None, number()), (7, None, number()), "len"):
            for at in (0, 1, 2):
                whole = [LEN, ONE, ("two", None, number(2))]
                whole[at] = value
                self.assertEqual(book_error((D, tuple(whole))), (at, "definition"))

    def test_words(self):
        self.assertEqual(book_error((D, (LEN, LEN))), (1, "twice"))
        self.assertEqual(book_error((D, (LEN, ("len", 7, 7)))), (1, "twice"))
        self.assertEqual(book_error((D, (LEN, ONE, ("one", None, number())))), (2, "twice"))

    def test_signatures(self):
        for value in (("Int",), 0, 199, ("->", 0, ("List", 5)), ("Bool",), ("Void",), ("List", ("List", ("->", 0, 0))), boxed(29)):
            self.assertIsNone(book_error((D, (("x", value, word("x")),))), value)
        for value in (*ODD_VALUES, -1, 200, ("Int", 0), ("List",), ("List", 0, 1), ("Lost",), ("->", 0, ("Lost",)), boxed(30), broad(201),
                      False, ("Nil",), ("List", True)):
            if value is not None:
                self.assertEqual(book_error((D, (("x", value, 7),))), (0, "signature"), value)
        self.assertIsNone(book_error((D, (("x", None, number()),))))

    def test_expressions(self):
        for value in (*ODD_VALUES, word("y"), ("word",), number(-1), ("make", "Cons", number()), funs(20), sums(61), ("make", "Lost")):
            self.assertEqual(book_error((D, (("x", None, value),))), (0, "expression"), value)
        for value in (word("x"), number(999999), funs(19), sums(59), ("hole",), op("+", word("x"), word("x"))):
            self.assertIsNone(book_error((D, (("x", None, value),))))
        self.assertEqual(book_error((D, (("x", None, word("y")), ("y", None, number())))), (0, "expression"))
        self.assertIsNone(book_error((D, (("y", None, number()), ("x", None, word("y"))))))

    def test_what_is_looked_at_first(self):
        self.assertEqual(book_error((D, (LEN, ("len", 7, 7), 7))), (1, "twice"))
        self.assertEqual(book_error((D, (LEN, ("a", -7, 7), ("len",)))), (1, "signature"))
        self.assertEqual(book_error((D, (LEN, ("a", None, 7), ("a", 7, 7)))), (1, "expression"))

    def test_arguments_stay(self):
        for value in (BOOK, (D, [LEN]), (D, (["x"], {"a": 1}))):
            before = repr(value)
            book_error(value)
            self.assertEqual(repr(value), before)


def boxed(many):
    shape = 0
    for _ in range(many):
        shape = ("List", shape)
    return shape


class Verdicts(Raises, unittest.TestCase):
    def test_each_kind(self):
        found = verdicts(book("""
            len is fun x -> match x with | Nil -> 0 | Cons _ y -> 1 + len y end; bad is 1 + True; uses is bad 1; more is uses + bad;
            wrong as List a -> a is len; on is wrong; one as Int -> Int is fun x -> x; two is one;"""))
        length = ("->", ("List", 0), ("Int",))
        self.assertEqual(found, (("scheme", length), ("clash", (0, 2)), ("blocked", 1), ("blocked", 1), ("signature", length), ("blocked", 4),
                                 ("scheme", ("->", ("Int",), ("Int",))), ("scheme", ("->", ("Int",), ("Int",)))))
        self.assertEqual(verdicts((D, ())), ())

    def test_signatures(self):
        for signature, right in (("a -> a", ("scheme", ("->", 0, 0))), ("c -> c", ("scheme", ("->", 0, 0))), ("a -> b", ("signature", ("->", 0, 0))),
                                 ("List b -> List b", ("scheme", ("->", ("List", 0), ("List", 0)))), ("Int", ("signature", ("->", 0, 0)))):
            found = verdicts(book(f"id as {signature} is fun x -> x;"))
            self.assertEqual(found, (right,), signature)

    def test_own_word(self):
        self.assertEqual(verdicts(book("f is f; g is fun x -> g; h is fun x -> h (h x);"))[0], ("scheme", 0))
        self.assertEqual(verdicts(book("g is fun x -> g;")), (("clash", (0, 1)),))
        # With a signature a definition is still inferred by its own word with one shape.
        self.assertEqual(verdicts(book("f as a -> Int is fun x -> f 1 + f True;"))[0][0], "clash")

    def test_later_ones_know_the_signature_alone(self):
        found = verdicts(book("id as Int -> Int is fun x -> x; use is id True;"))
        self.assertEqual(found[1][0], "clash")
        found = verdicts(book("id is fun x -> x; use is (id id) (id True); two is fun x -> Cons (id 1) (Cons use Nil);"))
        self.assertEqual(found[1], ("scheme", ("Bool",)))
        self.assertEqual(found[2][0], "clash")

    def test_large(self):
        datas = chain_datas()
        shape = ("->", 0, ("->", 1, ("->", 2, ("->", 3, ("->", 4, ("->", 5, ("->", 6, 7)))))))
        first = ("w0", shape, word("w0"))
        whole = op("+", op("+", *[op("+", word("w0"), word("w0"))] * 2), op("+", *[op("+", word("w0"), word("w0"))] * 2))
        # 15 places and 64 fresh variables are not too many; with four times as many there are more than 200.
        self.assertEqual(verdicts((datas, (first, ("x", None, whole))))[1][0], "clash")
        four = op("+", op("+", whole, whole), op("+", whole, op("+", word("w0"), number())))
        self.assertEqual(verdicts((datas, (first, ("x", None, four), ("y", None, word("x")))))[1:], (("large",), ("blocked", 1)))
        doubling = parse_book("data P a b is P1 a b; " + "; ".join(["d0 is fun x -> P1 x x"] + [
            f"d{at} is fun x -> d{at - 1} (d{at - 1} x)" for at in range(1, 4)]) + ";")
        self.assertEqual([verdict[0] for verdict in verdicts(doubling)], ["scheme", "scheme", "scheme", "large"])

    def test_as_infer_tells(self):
        source = random.Random(311)
        seen = set()
        for _ in range(60):
            definitions = []
            words = []
            for at in range(source.randrange(1, 6)):
                expression = random_expression(source, source.randrange(4), (*words, f"w{at}"))
                signature = source.choice([None, None, None, 3, ("Int",), ("->", 5, 1)])
                definitions.append((f"w{at}", signature, expression))
                words.append(f"w{at}")
            whole = (DATAS, tuple(definitions))
            if book_error(whole) is not None:
                continue
            found = verdicts(whole)
            self.assertEqual(found, verdicts_by_rule(whole))
            seen.update(verdict[0] for verdict in found)
            self.assertEqual(verdicts(whole), found)
        self.assertEqual(seen, {"scheme", "clash", "blocked", "signature"})


def is_free(expression, name):
    """Whether a word is free in an expression: without it, it does not fit."""
    words = tuple((f"w{at}", 0) for at in range(9) if f"w{at}" != name)
    return expression_error(DATAS, words, expression) is not None


def verdicts_by_rule(whole):
    """Point 21 written down once more."""
    found = []
    for index, (name, signature, expression) in enumerate(whole[1]):
        uses = [at for at in range(index) if is_free(expression, whole[1][at][0])]
        lost = [at for at in uses if found[at][0] != "scheme"]
        if lost:
            found.append(("blocked", lost[0]))
            continue
        try:
            scheme = infer(whole[0], tuple((whole[1][at][0], found[at][1]) for at in uses), expression, own=name)
        except TooLarge:
            found.append(("large",))
        except Clash as error:
            found.append(("clash", error.places))
        else:
            if signature is not None and instance_by(scheme.shape, signature) is None:
                found.append(("signature", scheme.shape))
            else:
                found.append(("scheme", scheme.shape if signature is None else normal(signature)))
    return tuple(found)


class Changes(Raises, unittest.TestCase):
    def test_uses(self):
        whole = book("a is 1; b is a + b; c is fun a -> a; d is let a = 1 in a + b + c 1; e is 2;")
        self.assertEqual([uses_of(whole, at) for at in range(5)], [(), (0, 1), (), (1, 2), ()])
        self.assertEqual(uses_of(BOOK, 1), (0,))
        for value in (*NO_INDEXES, 5):
            caught = self.refused(NoDefinition, {"value": value}, uses_of, BOOK, value)
            self.assertIs(caught.value, value)
        self.refused(NoDefinition, {"value": 0}, uses_of, (D, ()), 0)

    def test_changed(self):
        new = parse_definition("len is fun l -> 7")
        self.assertEqual(changed(BOOK, 0, new), (D, (new, ONE)))
        self.assertEqual(changed(BOOK, 1, ("two", None, number(2))), (D, (LEN, ("two", None, number(2)))))
        self.assertEqual(BOOK, (D, (LEN, ONE)))
        for function in (changed, anew):
            for value in NO_INDEXES:
                caught = self.refused(NoDefinition, {"value": value}, function, BOOK, value, None)
                self.assertIs(caught.value, value)
            for index, definition, error in ((0, None, (0, "definition")), (1, LEN, (1, "twice")), (0, ("x", None, number()), (1, "expression")),
                                             (1, ("y", -7, 7), (1, "signature")), (1, ("y", 7, 7), (1, "expression")), (0, ONE, (0, "expression")), (0, [], (0, "definition"))):
                self.refused(BadBook, {"error": error}, function, BOOK, index, definition)

    def test_anew(self):
        for text, right in (("len is fun l -> 7", (0, 1)), ("len as List a -> Int is fun l -> 7", (0,)), ("len is fun l -> match l with | Nil -> 1 end", (0,)),
                            ("len is 1 + True", (0, 1)), ("len is fun x -> match x with | Nil -> 0 | Cons _ y -> 2 + len y end", (0,))):
            self.assertEqual(anew(BOOK, 0, parse_definition(text)), right)
        self.assertEqual(anew(BOOK, 1, parse_definition("one is 7")), (1,))
        self.assertEqual(anew(BOOK, 1, parse_definition("two is len")), (1,))

    def test_all_others_keep_their_verdicts(self):
        source = random.Random(321)
        many = 0
        while many < 60:
            names = [f"w{at}" for at in range(source.randrange(2, 7))]
            definitions = [(name, source.choice([None, None, 0]), random_expression(source, source.randrange(3), tuple(names[:at + 1])))
                           for at, name in enumerate(names)]
            index = source.randrange(len(names))
            new = (names[index], None, random_expression(source, source.randrange(3), tuple(names[:index + 1])))
            whole = (DATAS, tuple(definitions))
            after = (DATAS, (*whole[1][:index], new, *whole[1][index + 1:]))
            if book_error(whole) is not None or book_error(after) is not None:
                continue
            many += 1
            old, fresh = verdicts(whole), verdicts(after)
            found = anew(whole, index, new)
            right = [index]
            for at in range(index + 1, len(names)):
                if any(is_free(after[1][at][2], names[one]) and fresh[one] != old[one] for one in right):
                    right.append(at)
            self.assertEqual(found, tuple(right))
            for at in range(len(names)):
                if at not in found:
                    self.assertEqual(old[at], fresh[at])


if __name__ == "__main__":
    unittest.main()
