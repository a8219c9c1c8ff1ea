import random
import unittest

from makes import LISTS, VOID, meeting, number, op, random_expression, word
from samples import ODD_VALUES, Raises
from shapelang.bounds import EDITS
from shapelang.books import anew, book_error, verdicts
from shapelang.errors import (BadBook, BadCount, BadDatas, BadEdit, BadEdits, BadExpression, BadShape, BadText, Busy, Clash, HasHole, Incomplete, LangError,
                              NothingToUndo, NoVersion, NoWord, Refused, Rejected, TooLarge, TooManyEdits, Used)
from shapelang.programs import datas_error
from shapelang.readers import parse_definition, parse_expression
from shapelang.schemes import Scheme
from shapelang.sessions import LoggedSession, LoggedStrictSession, Session, StrictSession
from test_trees import LEAVES, WIDE, wide_rows

D = (LISTS, VOID)
LEN = parse_expression("fun x -> match x with | Nil -> 0 | Cons _ y -> 1 + len y end")
ONE = parse_expression("len (Cons 5 Nil)")
HEAD = parse_expression("fun x -> match x with | Cons y _ -> y end")
CLASSES = (Session, StrictSession, LoggedSession, LoggedStrictSession)
STRICT = (StrictSession, LoggedStrictSession)
LOGGED = (LoggedSession, LoggedStrictSession)
TEXT = "data List a is Nil, Cons a (List a); data Void; len is fun x -> match x with | Nil -> 0 | Cons _ y -> 1 + len y end; one is len (Cons 5 Nil);"
CLASH = op("+", number(1), ("make", "True"))


def begun(kind=Session):
    """A session with two definitions."""
    session = kind(D)
    session.define("len", None, LEN)
    session.define("one", None, ONE)
    return session


class Stop(Exception):
    """What on_step raises."""


class Edits(Raises, unittest.TestCase):
    def test_at_first(self):
        for kind in CLASSES:
            session = kind(D)
            self.assertEqual((session.version, session.book, session.inferred, session.edits(), len(session)), (0, (D, ()), (), (), 0))
            self.assertEqual(list(session.history()), [(0, (D, ()))])
            self.assertEqual(session.MOST_EDITS, 60)
            self.assertEqual(str(session), "0 definitions, 0 edits")
        self.assertEqual(Session.MOST_EDITS, EDITS)
        for kind in CLASSES:
            for value in (*ODD_VALUES, (LISTS, LISTS), (LISTS,) * 7, 7, [LISTS]):
                if datas_error(value) is not None:
                    caught = self.refused(BadDatas, {"error": datas_error(value)}, kind, value)
                    self.assertEqual(caught.error, datas_error(value))

    def test_define(self):
        for kind in CLASSES:
            session = kind(D)
            self.assertEqual(session.define("len", None, LEN), 1)
            self.assertEqual(session.define("one", ("Int",), ONE), 2)
            self.assertEqual(session.book, (D, (("len", None, LEN), ("one", ("Int",), ONE))))
            self.assertEqual(session.inferred, ("one",))
            self.assertEqual(session.edits(), (("define", "len", None, LEN), ("define", "one", ("Int",), ONE)))
            for definition in (("len", None, number()), ("x", -7, number()), ("x", None, 7), ([], {}, None), (None, None, None), ("x", None, word("y")), (True, 0, 0)):
                error = book_error((D, (*session.book[1], definition)))
                self.refused(BadBook, {"error": error}, session.define, *definition)
            self.refused(Refused, {"index": 2, "verdict": ("clash", (0, 2))}, session.define, "x", None, CLASH)
            self.refused(Refused, {"index": 2, "verdict": ("signature", ("Int",))}, session.define, "x", ("Bool",), number())
            self.assertEqual(session.version, 2)
            for at in range(6):
                session.define(f"w{at}", None, number(at))
            self.refused(BadBook, {"error": (None, "many")}, session.define, "x", None, number())
            self.refused(BadBook, {"error": (None, "many")}, session.define, [], None, None)

    def test_change(self):
        for kind in CLASSES:
            session = begun(kind)
            self.assertEqual(session.change("len", None, parse_expression("fun l -> 7")), 3)
            self.assertEqual(session.inferred, ("len", "one"))
            self.assertEqual(session.change("len", None, parse_expression("fun l -> 8")), 4)
            self.assertEqual(session.inferred, ("len",))
            self.assertEqual(session.change("one", None, number()), 5)
            self.assertEqual(session.inferred, ("one",))
            self.assertEqual([definition[0] for definition in session.book[1]], ["len", "one"])
            for value in ("x", None, 0, ["len"], {}, (), "len ", True):
                caught = self.refused(NoWord, {"word": value}, session.change, value, 7, 7)
                self.assertIs(caught.word, value)
            self.refused(BadBook, {"error": (1, "signature")}, session.change, "one", -1, number())
            self.refused(BadBook, {"error": (0, "expression")}, session.change, "len", None, word("one"))
            self.refused(Refused, {"index": 0, "verdict": ("clash", (0, 2))}, session.change, "len", None, CLASH)
            session.change("one", None, ONE)
            self.refused(Refused, {"index": 1, "verdict": ("clash", (0, 1))}, session.change, "len", None, number())
            self.assertEqual((session.version, session.inferred), (6, ("one",)))

    def test_remove(self):
        for kind in CLASSES:
            session = begun(kind)
            session.define("two", None, parse_expression("one + len Nil"))
            self.refused(Used, {"word": "one"}, session.remove, "len")
            self.refused(Used, {"word": "two"}, session.remove, "one")
            for value in ("x", None, 0, ["len"], {}, (), True):
                caught = self.refused(NoWord, {"word": value}, session.remove, value)
                self.assertIs(caught.word, value)
            self.assertEqual(session.remove("two"), 4)
            self.assertEqual(session.inferred, ())
            self.assertEqual(session.remove("one"), 5)
            # That it uses itself does not hold it.
            self.assertEqual(session.remove("len"), 6)
            self.assertEqual(session.book, (D, ()))
            self.assertEqual(session.edits()[-1], ("remove", "len"))

    def test_removed_from_the_middle(self):
        session = begun()
        session.define("two", None, parse_expression("1 + 1"))
        session.define("id", None, parse_expression("fun x -> x"))
        session.remove("two")
        self.assertEqual([str(session[name]) for name in ("len", "one", "id")], ["List a -> Int", "Int", "a -> a"])
        session.change("len", None, parse_expression("fun x -> True"))
        self.assertEqual([str(session[name]) for name in ("len", "one", "id")], ["a -> Bool", "Bool", "a -> a"])
        self.assertEqual(session.inferred, ("len", "one"))

    def test_words_are_in_the_order_of_texts(self):
        session = Session(())
        session.define("b", None, number(1))
        session.define("a", None, word("b"))
        session.define("c", None, word("a"))
        session.change("b", None, ("make", "True"))
        self.assertEqual(session.inferred, ("a", "b", "c"))

    def test_sixty_edits(self):
        for kind in CLASSES:
            session = kind(())
            session.define("x", None, number())
            for at in range(59):
                session.change("x", None, number(at))
            self.assertEqual(session.version, 60)
            self.refused(TooManyEdits, {}, session.change, "y", None, number())
            self.refused(TooManyEdits, {}, session.define, "x", 7, 7)
            self.refused(TooManyEdits, {}, session.remove, "y")
            self.refused(Rejected, {"index": 0}, session.run, [("remove", "x")])
            self.assertEqual(session.run([]), 60)
            self.assertEqual(session.undo(), 59)
            self.refused(Rejected, {"index": 1}, session.run, [("remove", "x"), ("define", "x", None, number())])
            self.assertEqual(session.version, 59)
            self.assertEqual(session.remove("x"), 60)

    def test_undo(self):
        for kind in CLASSES:
            session = begun(kind)
            session.change("len", None, parse_expression("fun l -> 7"))
            self.assertEqual(session.undo(), 2)
            self.assertEqual((session.inferred, session.book), (("one",), begun().book))
            self.assertEqual(str(session["len"]), "List a -> Int")
            self.assertEqual(session.undo(), 1)
            self.assertEqual(session.inferred, ("len",))
            self.assertEqual(session.undo(), 0)
            self.assertEqual((session.inferred, session.edits()), ((), ()))
            self.refused(NothingToUndo, {}, session.undo)
            self.assertEqual(session.define("x", None, number()), 1)

    def test_states(self):
        session = begun()
        for kind in CLASSES:
            session = begun(kind)
            session.remove("one")
            books = [session.state(version=version) for version in range(4)]
            self.assertEqual([len(definitions) for _, definitions in books], [0, 1, 2, 1])
            self.assertEqual(session.state(), session.book)
            self.assertEqual(session.state(version=None), session.book)
            self.assertEqual(list(session.history()), list(enumerate(books)))
            for value in (-1, 4, True, False, "0", (0,), [0], {}, 10 ** 70):
                caught = self.refused(NoVersion, {"value": value}, lambda: session.state(version=value))
                self.assertIs(caught.value, value)

    def test_edits_keep_what_was_passed(self):
        session = Session(D)
        session.define("len", None, LEN)
        self.assertIs(session.edits()[0][3], LEN)
        edit = ("define", "one", ("Int",), ONE)
        session.run((edit,))
        self.assertEqual(session.edits(), (("define", "len", None, LEN), edit))

    def test_properties_cannot_be_assigned(self):
        session = begun(LoggedSession)
        for name in ("version", "book", "inferred", "log"):
            with self.assertRaises(AttributeError):
                setattr(session, name, 0)

    def test_what_is_an_edit(self):
        for value in (("define", 1, 2, 3), ("change", None, [], {}), ("remove", 0), ("define", "x", None, number())):
            self.assertIs(Session.is_edit(value), True)
            self.assertIs(begun().is_edit(value), True)
        for value in (*ODD_VALUES, ("define",), ("define", 1, 2), ("define", 1, 2, 3, 4), ("remove",), ("remove", 1, 2), ("undo",), ("run", []), ["remove", 0],
                      (["remove"], 0), ("Remove", 0), (None, 0), "remove", ("change", 1), ("remove", 0)[:1]):
            for kind in CLASSES:
                self.assertIs(kind.is_edit(value), False)

    def test_after_random_edits(self):
        source = random.Random(601)
        for kind in CLASSES:
            for _ in range(12):
                session = kind(D)
                books, inferred = [(D, ())], [()]
                for _ in range(25):
                    old = session.book
                    names = [definition[0] for definition in old[1]]
                    name = source.choice([*names, "x", "y", "z", "u", "v"])
                    expression = random_expression(source, source.randrange(3), tuple(names))
                    edit = source.choice([("define", name, None, expression), ("change", name, None, expression), ("remove", name), ("undo",)])
                    try:
                        version = getattr(session, edit[0])(*edit[1:])
                    except (LangError, NoWord):
                        self.assertEqual(session.book, old)
                        self.assertEqual(session.version, len(books) - 1)
                        continue
                    if edit[0] == "undo":
                        books.pop()
                        inferred.pop()
                        self.assertEqual(session.book, books[-1])
                    else:
                        books.append(session.book)
                        right = (name,) if edit[0] == "define" else ()
                        if edit[0] == "change":
                            found = anew(old, names.index(name), (name, None, expression))
                            right = tuple(sorted(session.book[1][at][0] for at in found))
                        inferred.append(right)
                    self.assertEqual(version, len(books) - 1)
                    self.assertEqual(session.inferred, inferred[-1])
                    self.assertEqual([book for _, book in session.history()], books)
                    for definition, verdict in zip(session.book[1], verdicts(session.book)):
                        self.assertEqual(verdict, ("scheme", session[definition[0]].shape))


class Batches(Raises, unittest.TestCase):
    batch = [("define", "len", None, LEN), ("define", "one", None, ONE), ("change", "len", None, parse_expression("fun l -> 7")), ("remove", "one")]

    def test_batches(self):
        for kind in CLASSES:
            for edits in (list(self.batch), tuple(self.batch)):
                session = kind(D)
                self.assertEqual(session.run(edits), 4)
                self.assertEqual(session.edits(), tuple(self.batch))
                self.assertEqual(session.inferred, ())
                self.assertEqual(session.undo(), 3)
                self.assertEqual(session.inferred, ("len", "one"))
            self.assertEqual(kind(D).run([]), 0)
            self.assertEqual(kind(D).run((), on_step=None), 0)

    def test_errors(self):
        for kind in CLASSES:
            session = begun(kind)
            book = session.book
            for value in (None, 0, "remove", {}, ("remove",) * 21, [("remove", "x")] * 21, True):
                self.refused(BadEdits, {}, session.run, value)
            for value in (*ODD_VALUES, ("undo",), ["remove", "one"]):
                self.refused(BadEdit, {"index": 1}, session.run, [("remove", "one"), value, None])
            self.refused(BadEdit, {"index": 0}, session.run, ("remove",))
            self.refused(Rejected, {"index": 1}, session.run, [("remove", "one"), ("remove", "one")])
            self.refused(Rejected, {"index": 0}, session.run, [("define", [], {}, None)])
            self.refused(Rejected, {"index": 2}, session.run, [("remove", "one"), ("define", "two", None, number()), ("change", "two", None, CLASH)])
            self.assertEqual((session.book, session.version, session.inferred), (book, 2, ("one",)))
            self.assertEqual(session.run([("change", "one", None, number(at)) for at in range(20)]), 22)

    def test_on_step(self):
        for kind in CLASSES:
            session = kind(D)
            seen = []

            def look(one):
                self.assertIs(one, session)
                seen.append((one.version, one.book, one.inferred, len(one), "one" in one, str(one), one.edits(), one("1 + 1")))
                return True

            session.run(self.batch, on_step=look)
            self.assertEqual([row[0] for row in seen], [1, 2, 3, 4])
            self.assertEqual([row[2] for row in seen], [("len",), ("one",), ("len", "one"), ()])
            self.assertEqual([row[4] for row in seen], [False, True, True, False])
            self.assertEqual(seen[1][5], "2 definitions, 2 edits")
            self.assertEqual(seen[2][6], tuple(self.batch[:3]))
            session.run([], on_step=look)
            self.assertEqual(len(seen), 4)

    def test_the_batch_is_copied(self):
        session = Session(D)
        edits = list(self.batch)
        session.run(edits, on_step=lambda one: edits.clear())
        self.assertEqual((session.version, edits), (4, []))

    def test_exceptions_of_on_step(self):
        for kind in CLASSES:
            session = begun(kind)
            for error in (Stop, KeyError, TypeError, NoWord, Used, KeyboardInterrupt):
                many = []

                def stop(one):
                    many.append(one.version)
                    if len(many) == 2:
                        raise error("x")

                with self.assertRaises(error) as caught:
                    session.run([("remove", "one"), ("remove", "len"), ("define", "x", None, number())], on_step=stop)
                self.assertIs(type(caught.exception), error)
                self.assertEqual((session.version, session.inferred, len(session), many), (2, ("one",), 2, [3, 4]))
                self.assertEqual(session.define("x", None, number()), 3)
                session.undo()

    def test_busy(self):
        for kind in CLASSES:
            session = begun(kind)
            seen = []

            def edit(one):
                for call in (lambda: one.define("len", 7, 7), lambda: one.change(None, 7, 7), lambda: one.remove("x"), one.undo, lambda: one.run(None), lambda: one.run([])):
                    self.refused(Busy, {}, call)
                    seen.append(one.version)
                # Another session may be edited.
                other = kind(D)
                other.run([("define", "x", None, number())], on_step=lambda third: self.refused(Busy, {}, third.undo))
                self.assertEqual(other.version, 1)

            session.run([("remove", "one")], on_step=edit)
            self.assertEqual(seen, [3] * 6)
            self.assertEqual(session.undo(), 2)
            self.refused(Busy, {}, lambda: session.run([("remove", "one")], on_step=lambda one: one.undo()))
            self.assertEqual(session.version, 2)
            self.assertEqual(session.remove("one"), 3)
            self.refused(Busy, {}, lambda: session.run([("remove", "len")], on_step=lambda one: one.run([], on_step=edit)))
            self.assertEqual((session.version, len(seen)), (3, 6))

    def test_busy_is_raised_ahead_of_all_other_errors(self):
        session = Session(())

        def fill(one):
            if one.version == 1:
                self.refused(Busy, {}, one.run, "x")

        session.run([("define", "x", None, number()), ("change", "x", None, number(1))], on_step=fill)
        self.assertEqual(session.version, 2)


class Queries(Raises, unittest.TestCase):
    def test_calls(self):
        for kind in CLASSES:
            session = begun(kind)
            for text, calls, right in (("len (Cons 5 Nil)", 100, ("Int", ("value", 1))), ("fun x -> len x + one", 0, ("List a -> Int", ("value", ("fun",)))),
                                       ("one", 0, ("Int", ("open", (2, 0)))), ("match Nil with | Cons x _ -> x end", 9, ("a", ("missing", ("make", "Nil"), (2, 0)))),
                                       ("one", 2000, ("Int", ("value", 1))), ("Nil", 0, ("List a", ("value", ("make", "Nil"))))):
                self.assertEqual(session(text, calls), right)
                self.assertEqual(session(text, calls), right)
            self.assertEqual(session("one"), ("Int", ("value", 1)))
            self.assertEqual(session("one", calls=1), ("Int", ("open", (1, 1))))

    def test_a_hundred_steps(self):
        session = Session(())
        session.define("down", None, parse_expression("fun n -> match n = 0 with | True -> 0 | _ -> down (n - 1) end"))
        # Two steps for each number, and two for 0.
        self.assertEqual(session("down 49"), ("Int", ("value", 0)))
        self.assertEqual(session("down 50"), ("Int", ("open", (0, 9))))

    def test_errors_of_calls(self):
        session = begun()
        for value in (*ODD_VALUES, 7, b"x"):
            if not isinstance(value, str):
                self.refused(BadText, {"index": None}, session, value)
        self.refused(BadText, {"index": 1}, session, "1 )")
        self.refused(TooLarge, {"limit": 60}, session, "1 + " * 60 + "1")
        self.refused(BadExpression, {"error": ((0,), "free")}, session, "x + True")
        self.refused(BadExpression, {"error": ((), "maker")}, session, "Lost", None)
        self.refused(Clash, {"places": (0, 2)}, session, "1 + True", None)
        self.refused(HasHole, {"spot": (2, 2)}, session, "1 + hole", None)
        for value in (-1, 2001, True, None, "1", [1]):
            caught = self.refused(BadCount, {"value": value}, session, "1", value)
            self.assertIs(caught.value, value)
        session.define("h", None, parse_expression("fun x -> hole"))
        self.refused(HasHole, {"spot": (2, 1)}, session, "1")

    def test_items(self):
        session = begun()
        self.assertEqual(session["len"], Scheme(("->", ("List", 0), ("Int",))))
        self.assertEqual(session["one"], Scheme(("Int",)))
        for value in ("x", "", None, 0, True, ["len"], ("len",), {}, "len "):
            caught = self.refused(NoWord, {"word": value}, lambda: session[value])
            self.assertIs(caught.word, value)
            self.assertNotIn(value, session)
        self.assertIn("len", session)
        session.change("len", ("->", ("List", ("Int",)), ("Int",)), LEN)
        self.assertEqual(str(session["len"]), "List Int -> Int")

    def test_no_loop(self):
        for kind in CLASSES:
            with self.assertRaises(TypeError):
                for _ in begun(kind):
                    self.fail()
            with self.assertRaises(TypeError):
                list(begun(kind))

    def test_equal(self):
        for one in CLASSES:
            for other in CLASSES:
                self.assertTrue(begun(one) == begun(other))
                self.assertFalse(begun(one) != begun(other))
                self.assertFalse(begun(one) == other(D))
                session = begun(other)
                session.remove("one")
                self.assertTrue(session != begun(one))
                session.define("one", None, ONE)
                self.assertTrue(session == begun(one))
            self.assertFalse(one(D) == one(()))
            for value in (*ODD_VALUES, begun(one).book, "2 definitions, 2 edits"):
                self.assertFalse(begun(one) == value)
                self.assertTrue(begun(one) != value)

    def test_len_and_str(self):
        session = begun()
        self.assertEqual((len(session), str(session)), (2, "2 definitions, 2 edits"))
        session.remove("one")
        self.assertEqual((len(session), str(session)), (1, "1 definitions, 3 edits"))

    def test_read(self):
        for kind in CLASSES:
            session = kind.read(TEXT)
            self.assertIs(type(session), kind)
            self.assertEqual(session, begun())
            self.assertEqual(session.edits(), begun().edits())
            self.assertEqual(kind.read("").book, ((), ()))
            self.refused(BadText, {"index": None}, kind.read, None)
            self.refused(BadText, {"index": 1}, kind.read, "x")
            self.refused(BadDatas, {"error": (1, "data")}, kind.read, "data A; data A; x is 1;")
            self.refused(BadBook, {"error": (0, "expression")}, kind.read, "x is y;")
            self.refused(Refused, {"index": 1, "verdict": ("clash", (0, 2))}, kind.read, "x is 1; y is 1 + True; z is w;")
            self.refused(BadBook, {"error": (1, "twice")}, kind.read, "x is 1; x is 1;")


class Strict(Raises, unittest.TestCase):
    def test_incomplete(self):
        nil = {"word": "head", "place": 1, "outline": ("make", "Nil")}
        for kind in STRICT:
            session = kind(D)
            self.refused(Incomplete, nil, session.define, "head", None, HEAD)
            self.assertEqual(session.version, 0)
            self.assertEqual(session.define("head", None, parse_expression("fun x -> match x with | Cons y _ -> y | Nil -> 1 end")), 1)
            self.refused(Incomplete, nil, session.change, "head", None, HEAD)
            # Their own errors come first.
            self.refused(Refused, {"index": 1, "verdict": ("clash", (0, 2))}, session.define, "x", None, CLASH)
            self.refused(BadBook, {"error": (1, "twice")}, session.define, "head", None, HEAD)
            self.refused(NoWord, {"word": "x"}, session.change, "x", None, HEAD)
            self.refused(Rejected, {"index": 0}, session.run, [("change", "head", None, HEAD)])
            self.refused(Incomplete, {"word": "x", "place": 4, "outline": ("make", "False")}, session.define, "x", None,
                         parse_expression("match 1 with | y -> (fun z -> match z with | True -> y end) end"))
            self.refused(Incomplete, {"word": "b", "place": 1, "outline": ("make", "Nil")}, kind.read, "data L is Nil, Cons; a is 1; b is fun x -> match x with | Cons -> a end;")
        for kind in (Session, LoggedSession):
            self.assertEqual(kind(D).define("head", None, HEAD), 1)

    def test_later_definitions_of_a_change(self):
        for kind in STRICT:
            session = kind(D)
            session.define("none", ("List", ("Void",)), parse_expression("Nil"))
            session.define("use", None, parse_expression("match none with | Nil -> 1 end"))
            session.define("more", None, parse_expression("use + 1"))
            self.refused(Incomplete, {"word": "use", "place": 0, "outline": ("make", "Cons", ("any",), ("any",))}, session.change, "none", None, parse_expression("Nil"))
            self.assertEqual(session.version, 3)
            self.assertEqual(session.change("none", ("List", ("Void",)), parse_expression("match True with | _ -> Nil end")), 4)

    def test_own_shape_and_signature(self):
        for kind in STRICT:
            session = kind(D)
            # The match is over the inferred shape, not that of the signature.
            self.refused(Incomplete, {"word": "f", "place": 1, "outline": ("make", "Cons", ("any",), ("any",))}, session.define, "f",
                         ("->", ("List", ("Void",)), ("Int",)), parse_expression("fun x -> match x with | Nil -> 1 end"))
            self.refused(Incomplete, {"word": "me", "place": 0, "outline": ("make", "Cons", ("any",), ("any",))}, session.define, "me", None,
                         parse_expression("match me with | Nil -> me end"))

    def test_too_large(self):
        datas, shape = meeting(201)
        for kind in STRICT:
            session = kind(datas)
            self.assertEqual(session.define("x", shape, word("x")), 1)
            self.refused(TooLarge, {"limit": 200}, session.define, "y", None, ("match", word("x"), ()))
            # Within one definition, a match that is too large comes ahead of an incomplete one.
            self.refused(TooLarge, {"limit": 200}, session.define, "y", None, ("let", "z", ("match", ("make", "True"), ()), ("match", word("x"), ())))
            session = kind(LEAVES)
            _, leaves, texts = WIDE[3]
            wide, rows = wide_rows(leaves, texts.split())
            session.define("x", wide, word("x"))
            self.refused(TooLarge, {"limit": 1000}, session.define, "y", None, ("match", word("x"), tuple((pattern, number()) for pattern in rows)))

    def test_undo_needs_no_look(self):
        for kind in STRICT:
            session = begun(kind)
            session.remove("one")
            session.undo()
            self.assertEqual(session, begun())


class Logs(Raises, unittest.TestCase):
    def test_logs(self):
        for kind in LOGGED:
            session = kind(D)
            self.assertEqual(session.log, ())
            session.define("len", None, LEN)
            session.define("one", None, ONE)
            session.change("len", None, parse_expression("fun l -> 7"))
            session.undo()
            session.remove("one")
            session.run([("define", "x", None, number()), ("define", "a", None, number())])
            session.run([])
            rows = (("define", 1, ("len",)), ("define", 2, ("one",)), ("change", 3, ("len", "one")), ("undo", 2, ("one",)), ("remove", 3, ()), ("run", 5, ("a",)),
                    ("run", 5, ("a",)))
            self.assertEqual(session.log, rows)
            for call in (lambda: session.define("x", 7, 7), lambda: session.change("y", 7, 7), lambda: session.remove("y"), lambda: session.run(None),
                         lambda: session.run([("remove", "y")])):
                with self.assertRaises((LangError, NoWord)):
                    call()
            with self.assertRaises(Stop):
                session.run([("remove", "x")], on_step=raise_stop)
            self.assertEqual(session.log, rows)
            while session.version:
                session.undo()
            self.refused(NothingToUndo, {}, session.undo)
            self.assertEqual(session.log[-1], ("undo", 0, ()))
            self.assertEqual(len(session.log), len(rows) + 5)

    def test_log_while_a_batch_is_done(self):
        for kind in LOGGED:
            session = kind(D)
            seen = []

            def look(one):
                seen.append(one.log)
                self.refused(Busy, {}, one.undo)

            session.run([("define", "x", None, number()), ("remove", "x")], on_step=look)
            self.assertEqual(seen, [(), ()])
            self.assertEqual(session.log, (("run", 2, ()),))

    def test_read(self):
        for kind in LOGGED:
            self.assertEqual(kind.read(TEXT).log, (("define", 1, ("len",)), ("define", 2, ("one",))))

    def test_classes(self):
        self.assertEqual(LoggedStrictSession.__bases__, (LoggedSession, StrictSession))
        self.assertEqual((LoggedSession.__bases__, StrictSession.__bases__), ((Session,), (Session,)))
        session = LoggedStrictSession(D)
        self.assertRaises(Incomplete, session.define, "head", None, HEAD)
        self.assertEqual(session.log, ())
        self.assertRaises(BadShape, Scheme, None)


def raise_stop(_):
    raise Stop()


if __name__ == "__main__":
    unittest.main()
