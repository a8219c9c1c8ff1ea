import unittest

from makes import LISTS, VOID, number
from samples import ODD_VALUES
from shapelang.consoles import Console
from shapelang.readers import parse_book, parse_expression
from shapelang.sessions import LoggedStrictSession, Session, StrictSession
from shapelang.writers import book_text

D = (LISTS, VOID)
TEXT = "data List a is Nil, Cons a (List a);\ndata Void;\nlen is fun x -> match x with | Nil -> 0 | Cons _ y -> 1 + len y end;\none is len (Cons 5 Nil);\n"


def console(kind=Session):
    return Console(kind.read(TEXT))


class Lines(unittest.TestCase):
    def answers(self, asked, *pairs):
        for line, answer in pairs:
            self.assertEqual(asked(line), answer, line)

    def test_the_session_itself(self):
        session = Session(())
        one, other = Console(session), Console(session)
        self.assertEqual(one("define x is 1"), "ok 1")
        self.assertEqual(other.execute("scheme x"), "Int")
        self.assertEqual(session.version, 1)
        session.remove("x")
        self.answers(one, ("undo", "ok 1"), ("scheme x", "Int"), ("undo", "ok 0"), ("undo", "error NothingToUndo"))

    def test_edits(self):
        self.answers(
            console(), ("define two is 2", "ok 3"), ("define two is 2", "error BadBook"), ("define  \n three  as Int  is\n3 ", "ok 4"), ("change three is True", "ok 5"),
            ("change four is 4", "error NoWord"), ("remove len", "error Used"), ("remove four", "error NoWord"), ("remove three", "ok 6"), ("undo", "ok 5"), ("undo", "ok 4"),
            ("scheme three", "Int"), ("define bad is 1 + True", "error Refused"), ("define bad is x", "error BadBook"), ("define bad as Lost is x", "error BadBook"),
            ("change len is 7", "error Refused"), ("define ", "error BadText"), ("change ", "error BadText"), ("define x", "error BadText"), ("define x is 1;", "error BadText"),
            ("define X is 1", "error BadText"), ("define x is 1 is 2", "error BadText"), ("define   ", "error BadText"), ("define x as " + "a -> " * 40 + "a is 1", "error TooLarge"),
            ("define x is " + "1 + " * 60 + "1", "error TooLarge"), ("book", TEXT + "two is 2;\nthree as Int is 3;"),
        )

    def test_sixty_edits(self):
        asked = Console(Session(()))
        for at in range(30):
            self.answers(asked, ("define x is 1", f"ok {2 * at + 1}"), ("remove x", f"ok {2 * at + 2}"))
        self.answers(asked, ("define x is 1", "error TooManyEdits"), ("undo", "ok 59"), ("scheme x", "Int"))

    def test_questions(self):
        self.answers(
            console(), ("scheme len", "List a -> Int"), ("scheme one", "Int"), ("scheme x", "error NoWord"), ("scheme Len", "error NoWord"), ("scheme $!", "error NoWord"),
            ("show one", "one is len (Cons 5 Nil)"), ("show x", "error NoWord"), ("show len", TEXT.split("\n")[2][:-1]), ("scheme a\tb", "error NoWord"),
            ("infer len", "List a -> Int"), ("infer fun x -> fun y -> x", "a -> b -> a"), ("infer one + True", "clash 0 2"), ("infer x", "error BadExpression"),
            ("infer x + True", "error BadExpression"), ("infer Lost", "error BadExpression"), ("infer 1 +", "error BadText"), ("infer ", "error BadText"), ("infer hole", "a"),
            ("infer   1 + 1 ", "Int"), ("infer\n1", "no command"), ("infer " + "1 + " * 60 + "1", "error TooLarge"), ("infer 1 + Nil", "clash 0 2"),
            ("infer match 1 with | Nil -> 2 end", "clash 0 1 2"),
        )

    def test_runs(self):
        self.answers(
            console(), ("run 7", "value 7"), ("run one", "value 1"), ("run len", "value fun"), ("run Nil", "value Nil"), ("run Cons 1 Nil", "value Cons 1 Nil"),
            ("run Cons (Cons 1 Nil) (Cons Nil Nil)", "value Cons (Cons 1 Nil) (Cons Nil Nil)"), ("run Cons len Nil", "value Cons fun Nil"), ("run 1 < 2", "value True"),
            ("run match Nil with end", "missing Nil"), ("run match Cons 1 Nil with | Nil -> 1 end", "missing Cons 1 Nil"), ("run match len with end", "missing fun"),
            ("run 1 + True", "error Clash"), ("run x", "error BadExpression"), ("run hole", "error HasHole"), ("run 1 + hole", "error HasHole"), ("run", "no command"),
            ("run ", "error BadText"), ("run 1 +", "error BadText"), ("run  \n 1\n", "value 1"), ("run 999999 + 1", "value 0"),
            ("define loop is fun x -> loop x", "ok 3"), ("run loop 1", "open"), ("define count is fun n -> match n = 0 with | True -> Nil | _ -> Cons n (count (n - 1)) end", "ok 4"),
            ("run count 3", "value Cons 3 (Cons 2 (Cons 1 Nil))"), ("run count 49", "value " + " (".join(f"Cons {at}" for at in range(49, 0, -1)) + " Nil" + ")" * 48),
            ("run count 50", "open"), ("define h is hole", "ok 5"), ("run 1", "error HasHole"),
        )

    def test_brackets(self):
        asked = Console(Session.read("data B a is E, Bx a; data T is L, N T T T;"))
        self.answers(asked, ("run Bx 1", "value Bx 1"), ("run Bx (Bx 1)", "value Bx (Bx 1)"), ("run Bx E", "value Bx E"), ("run Bx (fun x -> x)", "value Bx fun"),
                     ("run Bx (Bx (Bx E))", "value Bx (Bx (Bx E))"), ("run N L (N L L L) L", "value N L (N L L L) L"), ("run match Bx (Bx 2) with end", "missing Bx (Bx 2)"))

    def test_large_values(self):
        asked = Console(Session.read("data T is L, N T T T; f is fun n -> match n = 0 with | True -> L | _ -> let t = f (n - 1) in N t t t end;"))
        self.answers(asked, ("run f 1", "value N L L L"), ("run f 6", "value large"), ("run f 40", "value large"), ("run match f 6 with end", "missing large"),
                     ("run f 49", "value large"), ("run f 50", "open"))

    def test_strict_sessions(self):
        for kind in (StrictSession, LoggedStrictSession):
            asked = console(kind)
            self.answers(asked, ("define head is fun x -> match x with | Cons y _ -> y end", "error Incomplete"), ("undo", "ok 1"))

    def test_no_commands(self):
        asked = console()
        for value in (*ODD_VALUES, 7, b"undo", ["undo"]):
            if not isinstance(value, str):
                self.assertEqual(asked(value), "no command")
                self.assertEqual(asked.execute(value), "no command")
        for line in ("", " ", "\n", "undo ", " undo", "undo\n", "undo 1", "book ", "book x", "Book", "define", "change", "remove", "remove ", "remove  len", "remove len ",
                     "remove len one", "remove\nlen", "remove le\nn", "scheme", "scheme ", "scheme  len", "scheme len ", "show", "show ", "show len\n", "infer", "run",
                     " run 1", "run\n1", "define\nx is 1", "defines x is 1", "help", "Undo", "UNDO", "undo undo", "run\t1", "log", "version", "1 + 1", "read x"):
            self.assertEqual(asked(line), "no command", repr(line))
            self.assertEqual(asked.execute(line), "no command", repr(line))
        self.assertEqual(asked("undo"), "ok 1")

    def test_books(self):
        self.assertEqual(Console(Session(()))("book"), "")
        self.assertEqual(Console(Session(D))("book"), "data List a is Nil, Cons a (List a);\ndata Void;")
        asked = console()
        self.assertEqual(asked("book"), TEXT[:-1])
        self.assertEqual(parse_book(asked("book") + "\n"), parse_book(TEXT))
        self.assertEqual(book_text(parse_book(TEXT)), TEXT)

    def test_while_a_batch_is_done(self):
        session = Session.read(TEXT)
        asked = Console(session)
        seen = []

        def look(one):
            seen.extend([asked("undo"), asked("define x is 1"), asked("change x is 1"), asked("remove x"), asked("scheme len"), asked("run one"), asked("define ")])

        session.run([("define", "three", None, number(3))], on_step=look)
        self.assertEqual(seen, ["error Busy"] * 4 + ["List a -> Int", "value 1", "error BadText"])

    def test_the_same_again(self):
        asked = console()
        for line in ("scheme len", "show one", "infer len", "run one", "book", "run 1 +", "run"):
            self.assertEqual(asked(line), asked(line))
            self.assertEqual(asked(line), asked.execute(line))
        self.assertEqual(parse_expression("1"), number(1))


if __name__ == "__main__":
    unittest.main()
