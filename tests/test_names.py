import unittest

from samples import ODD_VALUES
from shapelang.names import KEYWORDS, is_integer, is_name, is_word, variable_of, variable_text


class Names(unittest.TestCase):
    def test_names(self):
        for text in ("A", "Zz9", "Abcdefgh"):
            self.assertTrue(is_name(text))
        for value in [*ODD_VALUES, "", "a", "9A", "Abcdefghi", "A b", "A_"]:
            self.assertFalse(is_name(value))

    def test_words(self):
        for text in ("a", "z9", "abcdefgh", "funs", "len"):
            self.assertTrue(is_word(text))
        for value in [*ODD_VALUES, *KEYWORDS, "", "A", "9a", "aB", "abcdefghi", "a b", "a_", "_"]:
            self.assertFalse(is_word(value))

    def test_integers(self):
        for value in (0, -1, 10 ** 79):
            self.assertTrue(is_integer(value))
        for value in (True, False, None, "0", (0,), [0]):
            self.assertFalse(is_integer(value))

    def test_texts_of_variables(self):
        texts = [variable_text(variable) for variable in range(200)]
        self.assertEqual(texts[:3] + texts[25:28] + texts[-1:], ["a", "b", "c", "z", "a1", "b1", "r7"])
        self.assertEqual([variable_of(text) for text in texts], list(range(200)))


if __name__ == "__main__":
    unittest.main()
