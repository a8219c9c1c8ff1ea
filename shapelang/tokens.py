"""Tokens: how a text is divided, and what each token may stand for in the grammar.

The code of a token is all that the grammar asks of it: the token itself, or the group of tokens
that it belongs to. The names of the groups have a blank in them, as no token has: so neither is
taken for the other.
"""

from shapelang.names import is_name, is_number, is_word, variable_of

BLANKS = " \n"
# What the tokens after the last one would be.
END = "the end"
# Marks of one sign; - is one, too, if it is not the beginning of an arrow.
MARKS = "()|_,;+*<="
OTHER_MARKS = ("->", "-")
# What a token with this code may stand for, if that is not the code alone.
KINDS = {
    "+": ("+", "a sign of sums"),
    "-": ("-", "a sign of sums"),
    "*": ("*", "a sign of products"),
    "<": ("<", "a sign of compares"),
    "=": ("=", "a sign of compares"),
    "a": ("a", "a word", "a variable"),
    "b": ("b", "a word", "a variable"),
    "a variable": ("a word", "a variable"),
}


def in_run(sign):
    """Whether the sign is a letter or a digit."""
    return sign.isascii() and sign.isalnum()


def token_end(text, start):
    """Return the index behind the token that begins at this index of the text."""
    end = start + 1
    if in_run(text[start]):
        while end < len(text) and in_run(text[end]):
            end += 1
    elif text[start:start + 2] == "->":
        end += 1
    return end


def tokens_one_by_one(text):
    """Return the list of the tokens of a text, whatever signs it has."""
    tokens = []
    start = 0
    while start < len(text):
        end = token_end(text, start)
        if text[start] not in BLANKS:
            tokens.append(text[start:end])
        start = end
    return tokens


def is_plain(token):
    """Whether this is one token: a run of letters and digits, or a mark."""
    return in_run(token) or token in MARKS or token in OTHER_MARKS


def tokens_of(text):
    """Return the list of the tokens of a text."""
    spaced = text.replace("\n", " ").replace("-", " - ").replace(" - >", " -> ")
    for mark in MARKS:
        spaced = spaced.replace(mark, f" {mark} ")
    tokens = [token for token in spaced.split(" ") if token]
    # Other signs than blanks and marks are seldom, and divide a text, too.
    if all([is_plain(token) for token in sorted(set(tokens))]):
        return tokens
    return tokens_one_by_one(text)


def code_of(token):
    """Return the code of a token."""
    if is_word(token):
        if token in KINDS:
            return token
        return "a word" if variable_of(token) is None else "a variable"
    if is_name(token):
        return "a Name"
    return "a number" if is_number(token) else token


def codes_of(tokens):
    """Return the dict of the codes of these tokens."""
    return dict([(token, code_of(token)) for token in sorted(set(tokens))])


def kinds_of(code):
    """Return the tuple of what a token with this code may stand for."""
    return KINDS[code] if code in KINDS else (code,)


def is_kept(kind):
    """Whether a token that stands for this is a part of what is read, not only a mark in it."""
    return kind.startswith("a ")
