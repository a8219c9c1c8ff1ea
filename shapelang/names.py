"""Integers, Names, words and the texts of variables: what tokens and tuples are made of."""

from shapelang.bounds import VARIABLES

SMALL = "abcdefghijklmnopqrstuvwxyz"
CAPITAL = "ABCDEFGHIJKLMNOPQRSTUVWXYZ"
DIGITS = "0123456789"
LETTERS_AND_DIGITS = "ABCDEFGHIJKLMNOPQRSTUVWXYZabcdefghijklmnopqrstuvwxyz0123456789"
KEYWORDS = ("fun", "let", "in", "match", "with", "end", "as", "data", "is", "hole")
# A Name and a word have at most so many signs, a number at most so many digits.
LONGEST = 8
MOST_DIGITS = 6
GREATEST = 999999


def is_integer(value):
    """Whether the value is an integer; True and False are none."""
    return isinstance(value, int) and not isinstance(value, bool)


def consists_of(text, signs):
    """Whether each sign of the text is one of these."""
    for sign in text:
        if sign not in signs:
            return False
    return True


def is_name(value):
    """Whether the value is a Name."""
    if not isinstance(value, str) or not 1 <= len(value) <= LONGEST or value[0] not in CAPITAL:
        return False
    for sign in value:
        if sign not in LETTERS_AND_DIGITS:
            return False
    return True


def is_word(value):
    """Whether the value is a word."""
    if not isinstance(value, str) or not 1 <= len(value) <= LONGEST or value[0] not in SMALL:
        return False
    return value.isascii() and value.isalnum() and value == value.lower() and value not in KEYWORDS


def is_decimal(text):
    """Whether the text is a number in decimal without leading zeros, of any size."""
    return text != "" and consists_of(text, DIGITS) and (text == "0" or text[0] != "0")


def is_number(text):
    """Whether the text is that of a number that an expression may have."""
    return is_decimal(text) and len(text) <= MOST_DIGITS


def variable_text(variable):
    """Return the text of a variable."""
    many, letter = divmod(variable, len(SMALL))
    return SMALL[letter] + (str(many) if many else "")


def variable_of(word):
    """Return the variable that has this word as its text, None if there is none."""
    many = word[1:]
    if many != "" and (not is_decimal(many) or many == "0"):
        return None
    variable = len(SMALL) * int(many or "0") + SMALL.index(word[0])
    return variable if variable <= VARIABLES else None
