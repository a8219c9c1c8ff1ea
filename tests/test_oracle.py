"""The readers compared with a slow one of another kind, over many right and wrong texts."""

import random
import unittest

from oracle import first_wrong, some_text
from shapelang.errors import BadText, TooLarge
from shapelang.readers import parse_book, parse_data, parse_definition, parse_expression, parse_pattern, parse_shape

READERS = {
    "shape": parse_shape, "pattern": parse_pattern, "expression": parse_expression, "data": parse_data,
    "definition": parse_definition, "book": parse_book,
}
STRAY = ["(", ")", "->", "|", "_", ",", ";", "+", "-", "*", "<", "=", "fun", "let", "in", "match", "with", "end", "as",
         "data", "is", "hole", "a", "b", "x", "A", "Nil", "0", "12", "007", "1000000", "aB", "s7", "a0", ">", "!", "9a",
         "abcdefghi", "Abcdefghi"]


def found_wrong(kind, text):
    try:
        READERS[kind](text)
    except BadText as error:
        return error.index
    except TooLarge:
        return None
    return None


def spoiled(source, tokens):
    """The tokens with one of them left out, put in, exchanged or with the rest cut off."""
    tokens = list(tokens)
    at = source.randrange(len(tokens) + 1)
    way = source.randrange(4)
    if way == 0:
        tokens.insert(at, source.choice(STRAY))
    elif way == 1:
        tokens[at:at + 1] = [source.choice(STRAY)]
    elif way == 2:
        del tokens[at:at + 1]
    else:
        del tokens[at:]
    return tokens


class Oracle(unittest.TestCase):
    def agree(self, kind, tokens):
        text = " ".join(tokens)
        self.assertEqual(found_wrong(kind, text), first_wrong(kind, text), (kind, text))

    def test_right_texts_and_their_beginnings(self):
        source = random.Random(1)
        for kind in READERS:
            for _ in range(25):
                tokens = some_text(source, kind)[:60]
                self.agree(kind, tokens)
                for end in range(0, len(tokens), 5):
                    self.agree(kind, tokens[:end])

    def test_spoiled_texts(self):
        source = random.Random(2)
        for kind in READERS:
            for _ in range(120):
                tokens = some_text(source, kind)[:50]
                for _ in range(source.randrange(1, 3)):
                    tokens = spoiled(source, tokens)
                self.agree(kind, tokens)

    def test_short_texts(self):
        for kind in READERS:
            for one in STRAY:
                self.agree(kind, [one])
                for other in STRAY:
                    self.agree(kind, [one, other])


if __name__ == "__main__":
    unittest.main()
