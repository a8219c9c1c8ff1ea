"""Tokens: how a text is divided, and what each token may stand for in the grammar.

The kinds of a token are the token itself and the groups of tokens that it belongs to. The names
of the groups have a blank in them, as no token has: so neither is taken for the other.
"""

from shapelang.names import is_name, is_number, is_word, variable_of

BLANKS = " \n"
# What the tokens after the last one would be.
END = "the end"
SIGN_KINDS = {
    "+": "a sign of sums",
    "-": "a sign of sums",
    "*": "a sign of products",
    "<": "a sign of compares",
    "=": "a sign of compares",
}


def in_run(sign):
    """Whether the sign is a letter or a digit."""
    return sign.isascii() and sign.isalnum()


def token_end(text, start):
    """Return the index behind the token that begins at this index of the text."""
    end = start + 1
    if in_run(text[start]):
        while end < len(text) and in_run(text[end]):
            end += 1
    elif text[start:start + 2] == "->":
        end += 1
    return end


def tokens_of(text):
    """Return the list of the tokens of a text."""
    tokens = []
    start = 0
    while start < len(text):
        end = token_end(text, start)
        if text[start] not in BLANKS:
            tokens.append(text[start:end])
        start = end
    return tokens


def kinds_of(token):
    """Return the tuple of what the token may stand for."""
    if is_word(token):
        return (token, "a word") if variable_of(token) is None else (token, "a word", "a variable")
    if is_name(token):
        return (token, "a Name")
    if is_number(token):
        return (token, "a number")
    if token in SIGN_KINDS:
        return (token, SIGN_KINDS[token])
    return (token,)


def is_kept(kind):
    """Whether a token that stands for this is a part of what is read, not only a mark in it."""
    return kind.startswith("a ")
