"""Consoles: sessions that are used by lines of text."""

from shapelang.editing import index_of_word
from shapelang.errors import BadExpression, Clash, LangError, NoWord
from shapelang.inferring import infer
from shapelang.programs import expression_error
from shapelang.readers import parse_definition, parse_expression
from shapelang.writers import book_text, definition_text

NO_COMMAND = "no command"


def worth_text(value, inside):
    """Return the text of a value that is shown; inside another one it stands in brackets if it has parts."""
    if not isinstance(value, tuple):
        return str(value)
    if value[0] != "make":
        return value[0]
    text = " ".join([value[1], *[worth_text(part, True) for part in value[2:]]])
    return f"({text})" if inside and len(value) > 2 else text


def define_answer(session, text):
    """Define what the text says."""
    word, signature, expression = parse_definition(text)
    return f"ok {session.define(word, signature, expression)}"


def change_answer(session, text):
    """Change what the text says."""
    word, signature, expression = parse_definition(text)
    return f"ok {session.change(word, signature, expression)}"


def remove_answer(session, word):
    """Remove a definition."""
    return f"ok {session.remove(word)}"


def undo_answer(session):
    """Undo the last edit."""
    return f"ok {session.undo()}"


def scheme_answer(session, word):
    """Return the text of the scheme of a definition."""
    return str(session[word])


def show_answer(session, word):
    """Return the text of a definition."""
    definitions = session.book[1]
    return definition_text(definitions[index_of_word(definitions, word)])


def infer_answer(session, text):
    """Return the text of the scheme of an expression, or the places that clash."""
    expression = parse_expression(text)
    datas, definitions = session.book
    known = tuple([(definition[0], session[definition[0]].shape) for definition in definitions])
    error = expression_error(datas, known, expression)
    if error is not None:
        raise BadExpression(error)
    try:
        return str(infer(datas, known, expression))
    except Clash as clash:
        return " ".join(["clash", *[str(place) for place in clash.places]])


def run_answer(session, text):
    """Return the text of the outcome of an expression."""
    _, outcome = session(text)
    if outcome[0] == "open":
        return "open"
    return f"{outcome[0]} {worth_text(outcome[1], False)}"


def book_answer(session):
    """Return the text of the book without its last line feed."""
    return book_text(session.book)[:-1]


# The commands that stand alone, those with a word behind them, and those with a text.
ALONE = {"undo": undo_answer, "book": book_answer}
WITH_WORD = {"remove": remove_answer, "scheme": scheme_answer, "show": show_answer}
WITH_TEXT = {"define": define_answer, "change": change_answer, "infer": infer_answer, "run": run_answer}


def is_word_there(text):
    """Whether what stands behind a command is a word."""
    return text != "" and " " not in text and "\n" not in text


def answer_of(session, line):
    """Return the answer to a line, unless it raises an error."""
    command, blank, text = line.partition(" ")
    if blank == "":
        if command not in ALONE:
            return NO_COMMAND
        answer_alone = ALONE[command]
        return answer_alone(session)
    if command in WITH_TEXT:
        answer_text = WITH_TEXT[command]
        return answer_text(session, text)
    if command in WITH_WORD and is_word_there(text):
        answer_word = WITH_WORD[command]
        return answer_word(session, text)
    return NO_COMMAND


class Console:
    """A session with answers to lines."""

    def __init__(self, session):
        self._session = session

    def execute(self, value):
        """Return the answer to a value."""
        if not isinstance(value, str):
            return NO_COMMAND
        try:
            return answer_of(self._session, value)
        except (LangError, NoWord) as error:
            name = error.__class__.__name__
            return f"error {name}"

    def __call__(self, value):
        """Return the answer to a value."""
        return self.execute(value)
