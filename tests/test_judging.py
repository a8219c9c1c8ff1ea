import random
import unittest

from makes import DATAS, KNOWN, LISTS, VOID, YES, make, meeting, random_expression, word
from samples import Raises
from shapelang.errors import Clash, TooLarge
from shapelang.inferring import derive, infer
from shapelang.judging import matches_of
from shapelang.missing import idle_rows, missing
from shapelang.places import places_of
from shapelang.readers import parse_expression
from test_trees import LEAVES, WIDE, wide_rows

SMALL = (LISTS, VOID)


class Matches(Raises, unittest.TestCase):
    def judged(self, text, known=(), own=None):
        return matches_of(SMALL, known, parse_expression(text), own=own)

    def test_some(self):
        no_true = make("Cons", make("False"), ("any",))
        for text, right in (
            ("fun x -> match x with | Nil -> 0 | Cons True r -> 1 end", ((1, no_true, ()),)), ("1 + 2", ()),
            ("fun x -> match x with | x -> 0 | Nil -> 1 end", ((1, None, (1,)),)), ("match 3 with end", ((0, ("any",), ()),)),
            ("match hole with | _ -> 1 | y -> 2 end", ((0, None, (1,)),)), ("fun x -> match x with | True -> 1 | False -> 2 end", ((1, None, ()),)),
            ("match match Nil with | Nil -> True end with | True -> 1 end", ((0, make("False"), ()), (1, make("Cons", ("any",), ("any",)), ()))),
            ("fun l -> match l with | Nil -> 1 | Cons x y -> match y with | Nil -> 2 end end",
             ((1, None, ()), (8, make("Cons", ("any",), ("any",)), ()))),
        ):
            self.assertEqual(self.judged(text), right, text)
            self.assertEqual(self.judged(text), right, text)

    def test_the_shape_of_what_is_matched(self):
        # A list of Void has no other value than Nil.
        known = (("none", ("List", ("Void",))), ("void", ("Void",)))
        self.assertEqual(self.judged("match none with | Nil -> 1 end", known), ((0, None, ()),))
        self.assertEqual(self.judged("match none with | Cons _ _ -> 1 | Nil -> 2 end", known), ((0, None, (0,)),))
        self.assertEqual(self.judged("match void with end", known), ((0, None, ()),))
        self.assertEqual(self.judged("match void with | x -> 1 end", known), ((0, None, (0,)),))
        self.assertEqual(self.judged("match me with | Nil -> me end", own="me"), ((0, make("Cons", ("any",), ("any",)), ()),))

    def test_as_missing_and_idle_rows_tell(self):
        source = random.Random(301)
        many = 0
        while many < 120:
            expression = random_expression(source, 5)
            try:
                infer(DATAS, KNOWN, expression)
            except (Clash, TooLarge) as error:
                self.refused(type(error), vars(error), matches_of, DATAS, KNOWN, expression)
                continue
            shapes = derive(DATAS, KNOWN, expression)
            right = []
            for place, part in enumerate(places_of(expression)):
                if part[0] == "match":
                    rows = tuple(pattern for pattern, _ in part[2])
                    right.append((place, missing(DATAS, shapes[place + 1], rows), idle_rows(DATAS, shapes[place + 1], rows)))
            self.assertEqual(matches_of(DATAS, KNOWN, expression), tuple(right))
            many += len(right)

    def test_clashes(self):
        self.refused(Clash, {"places": (0, 2)}, self.judged, "1 + True")
        self.refused(Clash, {"places": (0, 1, 2)}, self.judged, "match Nil with | True -> 1 end")
        self.refused(Clash, {"places": (0, 1, 2)}, self.judged, "match 1 with | Nil -> 1 end")

    def test_too_large(self):
        datas, shape = meeting(201)
        self.refused(TooLarge, {"limit": 200}, matches_of, datas, (("x", shape),), ("match", word("x"), ()))
        datas, shape = meeting(200)
        self.assertEqual(matches_of(datas, (("x", shape),), ("match", word("x"), ())), ((0, ("any",), ()),))
        for many, leaves, texts in WIDE:
            shape, rows = wide_rows(leaves, texts.split())
            expression = ("match", word("x"), tuple((pattern, ("hole",)) for pattern in rows))
            if len(places_of(expression)) > 60:
                continue
            if many > 1000:
                self.refused(TooLarge, {"limit": 1000}, matches_of, LEAVES, (("x", shape),), expression)
            else:
                self.assertEqual(matches_of(LEAVES, (("x", shape),), expression), ((0, missing(LEAVES, shape, rows), ()),))

    def test_the_first_match_that_is_too_large(self):
        datas, shape = meeting(201)
        both = ("let", "y", ("match", YES, ()), ("match", word("x"), ()))
        self.refused(TooLarge, {"limit": 200}, matches_of, datas, (("x", shape),), both)
        self.refused(TooLarge, {"limit": 199}, matches_of, datas, tuple((f"x{at}", ("->", 0, ("->", 1, ("->", 2, 3)))) for at in range(20)),
                     wide_sum(("x", 20), 45))


def wide_sum(words, many):
    """An expression with so many words in it."""
    name, count = words
    parts = [word(f"{name}{at % count}") for at in range(many)]
    while len(parts) > 1:
        parts = [("op", "+", *parts[at:at + 2]) if at + 1 < len(parts) else parts[at] for at in range(0, len(parts), 2)]
    return parts[0]


if __name__ == "__main__":
    unittest.main()
