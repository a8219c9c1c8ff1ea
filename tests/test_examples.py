"""The examples of the document, in examples.txt."""

import unittest
from pathlib import Path

from shapelang.errors import LangError
from shapelang.readers import parse_expression

TEXT = (Path(__file__).resolve().parent / "examples.txt").read_text(encoding="ascii")
EXAMPLES = [example.split("\n") for example in TEXT.strip().split("\n\n")]


def names():
    """The names that the examples use without assigning them."""
    nil, yes, no = ("make", "Nil"), ("make", "True"), ("make", "False")
    datas = (("List", 1, (("Nil",), ("Cons", 0, ("List", 0)))), ("Void", 0, ()))
    length = ("len", None, parse_expression("fun x -> match x with | Nil -> 0 | Cons _ y -> 1 + len y end"))
    return {
        "NIL": nil, "YES": yes, "NO": no, "D": datas, "BOOLS": ("List", ("Bool",)),
        "ONE": ("make", "Cons", yes, nil), "R": (nil, ("make", "Cons", yes, ("word", "r"))),
        "LEN": length, "B": (datas, (length,)),
    }


def result_of(lines):
    """The repr of the last expression, or the error that it raises."""
    scope = names()
    for line in lines[:-1]:
        exec(line, scope)
    try:
        return repr(eval(lines[-1], scope))
    except (LangError, LookupError) as error:
        return f"raises {type(error).__name__}({', '.join(map(repr, vars(error).values()))})"


class Examples(unittest.TestCase):
    def test_each_example(self):
        self.assertGreater(len(EXAMPLES), 70)
        for example in EXAMPLES:
            lines = [line[4:] for line in example if line.startswith(">>> ")]
            with self.subTest(lines[-1]):
                self.assertEqual(result_of(lines), "\n".join(example[len(lines):]))


if __name__ == "__main__":
    unittest.main()
