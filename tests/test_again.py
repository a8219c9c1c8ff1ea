"""What was given once is given again, and arguments stay as they are: for all functions of the later modules."""

import copy
import unittest

from makes import ANY, BOOLS, NIL, NO, YES, make, number, word
from programs import BOOK
from shapelang import books, codes, descents, judging, missing, running, sessions
from shapelang.consoles import Console
from shapelang.readers import parse_definition, parse_expression

ROWS = (NIL, make("Cons", YES, word("r")))
TEXT = "let f = fun x -> match x with | Cons y _ -> y + one end in f (count 3)"
EXPRESSION = parse_expression(TEXT)
KNOWN = (("one", ("Int",)), ("count", ("->", ("Int",), ("List", ("Int",)))))
CODE = codes.compiled(BOOK, EXPRESSION)
LEN = parse_definition("len is fun l -> 7")
CALLS = (
    (missing.missing, (BOOK[0], BOOLS, ROWS)), (missing.is_missing, (BOOK[0], BOOLS, ROWS, make("Cons", NO, ANY))), (missing.idle_rows, (BOOK[0], BOOLS, ROWS)),
    (missing.witness, (BOOK[0], BOOLS, ROWS, 1)), (missing.count_met, (BOOK[0], BOOLS, ROWS, None, 21)), (judging.matches_of, (BOOK[0], KNOWN, EXPRESSION)),
    (books.book_error, (BOOK,)), (books.book_error, ([BOOK, {"a": [1]}],)), (books.verdicts, (BOOK,)), (books.uses_of, (BOOK, 3)), (books.changed, (BOOK, 4, LEN)),
    (books.anew, (BOOK, 4, LEN)), (running.run, (BOOK, EXPRESSION, 50)), (running.run_word, (BOOK, "count", (5,), 9)), (running.trace, (BOOK, EXPRESSION, 50)),
    (codes.code_error, (BOOK[0], CODE)), (codes.code_error, (BOOK[0], [CODE, {"a": [()]}])), (codes.compiled, (BOOK, EXPRESSION)), (codes.run_code, (BOOK[0], CODE, 50)),
    (codes.room_of, (BOOK[0], CODE, 50)), (descents.calls_of, (BOOK, 4)), (descents.joined, (((1, "same"), ()), ((0, "less"), (1, "same")))),
    (descents.find_descent, (BOOK, 6)), (descents.descent_holds, (BOOK, 4, ("descent", (((0, "less"),),)))), (descents.descent_holds, (BOOK, 4, ["loop", [0]])),
    (descents.ends, (BOOK, 4)),
)


class Again(unittest.TestCase):
    def test_functions(self):
        for function, arguments in CALLS:
            kept = copy.deepcopy(arguments)
            first = function(*arguments)
            self.assertEqual(repr(function(*arguments)), repr(first), function.__name__)
            self.assertEqual(repr(function(*copy.deepcopy(arguments))), repr(first), function.__name__)
            self.assertEqual(repr(arguments), repr(kept), function.__name__)

    def test_generators(self):
        expression = copy.deepcopy(EXPRESSION)
        first = list(running.each_step(BOOK, expression))
        self.assertEqual(list(running.each_step(BOOK, EXPRESSION)), first)
        self.assertEqual(tuple(first), running.trace(BOOK, EXPRESSION, 2000))
        self.assertEqual(expression, EXPRESSION)

    def test_sessions(self):
        for kind in (sessions.Session, sessions.StrictSession, sessions.LoggedSession, sessions.LoggedStrictSession):
            edits = [("define", "a", None, number(1)), ["define"], ("define", "b", None, word("a"))]
            batch = edits[::2]
            session = kind(BOOK[0])
            session.run(batch)
            kept = (session.book, session.edits(), session.inferred, str(session))
            self.assertEqual(batch, edits[::2])
            batch.clear()
            edits[1].append(None)
            self.assertEqual((session.book, session.edits(), session.inferred, str(session)), kept)
            self.assertEqual(session("a + b"), session("a + b"))
            self.assertEqual(session["b"], session["b"])
            self.assertEqual(list(session.history()), list(session.history()))
            self.assertEqual(Console(session)("book"), Console(session)("book"))
            self.assertEqual(session.state(version=2), session.book)


if __name__ == "__main__":
    unittest.main()
