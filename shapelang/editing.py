"""What edits make of accepted definitions."""

from shapelang.books import book_error, is_scheme, judged_anew, uses_at
from shapelang.bounds import BATCH
from shapelang.errors import BadBook, BadEdit, BadEdits, NoWord, Refused, Used

# How many items an edit has, by its first one.
ITEMS = {"define": 4, "change": 4, "remove": 2}


def is_edit_form(value):
    """Whether the value is an edit."""
    if not isinstance(value, tuple) or len(value) == 0 or not isinstance(value[0], str):
        return False
    return value[0] in ITEMS and len(value) == ITEMS[value[0]]


def check_batch(edits):
    """Raise an error if the value is not a batch of edits."""
    if not isinstance(edits, (list, tuple)) or len(edits) > BATCH:
        raise BadEdits()
    for index, edit in enumerate(edits):
        if not is_edit_form(edit):
            raise BadEdit(index)


def index_of_word(definitions, word):
    """Return the index of the definition with this word, any value."""
    words = [definition[0] for definition in definitions]
    if not isinstance(word, str) or word not in words:
        raise NoWord(word)
    return words.index(word)


def put_at_index(book, index, definition, verdicts):
    """Return what the book becomes with a definition, perhaps one more, at this index.

    That are the definitions, their verdicts, and the ascending list of those that were inferred.
    """
    datas, definitions = book
    result = (datas, (*definitions[:index], definition, *definitions[index + 1:]))
    error = book_error(result)
    if error is not None:
        raise BadBook(error)
    found, anew_ones = judged_anew(result, index, verdicts)
    for at, verdict in enumerate(found):
        if not is_scheme(verdict):
            raise Refused(at, verdict)
    return result[1], found, anew_ones


def removed(book, index, verdicts):
    """Return what put_at_index does, for the book without the definition with this index."""
    definitions = book[1]
    for at in range(len(definitions)):
        if at != index and index in uses_at(book, at):
            raise Used(definitions[at][0])
    return (*definitions[:index], *definitions[index + 1:]), (*verdicts[:index], *verdicts[index + 1:]), []


def edited(book, verdicts, edit):
    """Return the definitions of a book after an edit, their verdicts, and the list of those that were inferred."""
    definitions = book[1]
    if edit[0] == "define":
        return put_at_index(book, len(definitions), edit[1:], verdicts)
    index = index_of_word(definitions, edit[1])
    if edit[0] == "change":
        return put_at_index(book, index, edit[1:], verdicts)
    return removed(book, index, verdicts)
