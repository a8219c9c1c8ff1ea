"""Books: datas and definitions, and what is found of each definition."""

from shapelang.bounds import DEFINITIONS
from shapelang.datas import is_known
from shapelang.errors import BadBook, Clash, NoDefinition, TooLarge
from shapelang.free import free_words
from shapelang.inferring import infer
from shapelang.names import is_integer, is_word
from shapelang.programs import datas_error, expression_error
from shapelang.shapes import instance_by, normal

# The place of a shape where only words are asked for.
SOME = 0


def definition_fault(datas, words, value):
    """Return what is wrong with a definition behind those of these words, None if nothing is."""
    if not isinstance(value, tuple) or len(value) != 3 or not is_word(value[0]):
        return "definition"
    word, signature, expression = value
    if word in words:
        return "twice"
    if signature is not None and not is_known(datas, signature):
        return "signature"
    known = tuple([(earlier, SOME) for earlier in (*words, word)])
    return None if expression_error(datas, known, expression) is None else "expression"


def definitions_error(datas, definitions):
    """Return None for definitions of a book with these datas, otherwise where the first fault is, and a word."""
    if len(definitions) > DEFINITIONS:
        return (None, "many")
    words = []
    for index, definition in enumerate(definitions):
        fault = definition_fault(datas, words, definition)
        if fault is not None:
            return (index, fault)
        words.append(definition[0])
    return None


def book_error(value):
    """Return None for a book, otherwise where the first fault is, and a word."""
    if not isinstance(value, tuple) or len(value) != 2 or not isinstance(value[1], tuple):
        return (None, "book")
    if datas_error(value[0]) is not None:
        return (None, "datas")
    return definitions_error(*value)


def uses_at(book, index):
    """Return the ascending tuple of the indexes of the definitions that the one with this index uses."""
    free = free_words(book[1][index][2])
    return tuple([at for at, definition in enumerate(book[1][:index + 1]) if definition[0] in free])


def is_scheme(verdict):
    """Whether a verdict is a scheme."""
    return verdict[0] == "scheme"


def verdict_at(book, index, earlier):
    """Return the verdict of the definition with this index, behind these verdicts of the earlier ones."""
    word, signature, expression = book[1][index]
    uses = [at for at in uses_at(book, index) if at < index]
    for at in uses:
        if not is_scheme(earlier[at]):
            return ("blocked", at)
    known = tuple([(book[1][at][0], earlier[at][1]) for at in uses])
    try:
        shape = infer(book[0], known, expression, own=word).shape
    except TooLarge:
        return ("large",)
    except Clash as error:
        return ("clash", error.places)
    if signature is None:
        return ("scheme", shape)
    return ("signature", shape) if instance_by(shape, signature) is None else ("scheme", normal(signature))


def verdicts(book):
    """Return the tuple of the verdicts of all definitions."""
    found = []
    for index in range(len(book[1])):
        found.append(verdict_at(book, index, found))
    return tuple(found)


def check_index(book, index):
    """Raise NoDefinition if the value is not the index of a definition."""
    if not is_integer(index) or not 0 <= index < len(book[1]):
        raise NoDefinition(index)


def uses_of(book, index):
    """Return the ascending tuple of the indexes of the definitions that this one uses."""
    check_index(book, index)
    return uses_at(book, index)


def changed(book, index, definition):
    """Return the book with this definition in the place of the one with this index."""
    check_index(book, index)
    datas, definitions = book
    result = (datas, (*definitions[:index], definition, *definitions[index + 1:]))
    error = book_error(result)
    if error is not None:
        raise BadBook(error)
    return result


def judged_anew(book, index, old):
    """Return the verdicts of a book, and the list of the definitions that are inferred anew for it.

    The definition with this index is new; old are the verdicts ahead of that.
    """
    new = list(old[:index])
    anew_ones = []
    for at in range(index, len(book[1])):
        if at == index or [one for one in uses_at(book, at) if one in anew_ones and new[one] != old[one]]:
            anew_ones.append(at)
            new.append(verdict_at(book, at, new))
        else:
            new.append(old[at])
    return tuple(new), anew_ones


def anew(book, index, definition):
    """Return the ascending tuple of the definitions that are inferred anew if this one is changed."""
    result = changed(book, index, definition)
    _, found = judged_anew(result, index, verdicts(book))
    return tuple(found)
