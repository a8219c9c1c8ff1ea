"""The errors of the package; each one keeps the very objects that it is made of."""


class LangError(ValueError):
    """The base of the errors about values."""


class BadShape(LangError):
    """A value that is not a shape."""

    def __init__(self, value):
        self.value = value


class BadCount(LangError):
    """A number of things that is not the one asked for."""

    def __init__(self, value):
        self.value = value


class NoMeeting(LangError):
    """Two schemes that have no meeting."""


class NoSolution(LangError):
    """Groups of equations without a solution."""


class TooMany(LangError):
    """More results than are listed."""

    def __init__(self, limit):
        self.limit = limit


class TooLarge(LangError):
    """Something that goes beyond a bound."""

    def __init__(self, limit):
        self.limit = limit


class Clash(LangError):
    """An expression that is not accepted, with the places of a clash."""

    def __init__(self, places):
        self.places = places


class BadChain(LangError):
    """A chain with an item that is not a row of it."""

    def __init__(self, index):
        self.index = index


class BadValue(LangError):
    """Something that is not a value of the shape."""

    def __init__(self, value):
        self.value = value


class BadForm(LangError):
    """Something that is not a form of the shape."""

    def __init__(self, form):
        self.form = form


class BadSize(LangError):
    """Something that is not a size that is counted."""

    def __init__(self, size):
        self.size = size


class NoValue(LangError):
    """A shape that has no values."""

    def __init__(self, value):
        self.value = value


class HasValues(LangError):
    """A shape that has values."""


class NotMet(LangError):
    """A value that the pattern does not meet."""

    def __init__(self, value):
        self.value = value


class Idle(LangError):
    """A row that is the first one of no form."""

    def __init__(self, number):
        self.number = number


class BadRows(LangError):
    """Something that is not rows for the shape."""

    def __init__(self, error):
        self.error = error


class BadBook(LangError):
    """Something that is not a book."""

    def __init__(self, error):
        self.error = error


class HasHole(LangError):
    """A hole in what is to be run."""

    def __init__(self, spot):
        self.spot = spot


class NotPlain(LangError):
    """A definition that is not plain."""

    def __init__(self, index):
        self.index = index


class BadDatas(LangError):
    """Something that is not datas."""

    def __init__(self, error):
        self.error = error


class Used(LangError):
    """A definition that another one uses."""

    def __init__(self, word):
        self.word = word


class Refused(LangError):
    """A definition whose verdict is not a scheme."""

    def __init__(self, index, verdict):
        self.index = index
        self.verdict = verdict


class TooManyEdits(LangError):
    """An edit beyond the number that may stand."""


class NothingToUndo(LangError):
    """No edit stands."""


class BadEdits(LangError):
    """Something that is not a batch of edits."""


class BadEdit(LangError):
    """An item of a batch that is not an edit."""

    def __init__(self, index):
        self.index = index


class Rejected(LangError):
    """An edit of a batch that raised an error."""

    def __init__(self, index):
        self.index = index


class Busy(LangError):
    """A session that is just doing a batch."""


class BadExpression(LangError):
    """An expression that does not fit."""

    def __init__(self, error):
        self.error = error


class Incomplete(LangError):
    """A match that is not complete."""

    def __init__(self, word, place, outline):
        self.word = word
        self.place = place
        self.outline = outline


class BadText(LangError):
    """A text that cannot be read."""

    def __init__(self, index):
        self.index = index


class NoPlace(LookupError):
    """Not the number of a place."""

    def __init__(self, value):
        self.value = value


class NoMaker(LookupError):
    """Not the Name of a maker of the shape."""

    def __init__(self, name):
        self.name = name


class NoIndex(LookupError):
    """Not the index of a form."""

    def __init__(self, index):
        self.index = index


class NoRow(LookupError):
    """Not the index of a row."""

    def __init__(self, number):
        self.number = number


class NoDefinition(LookupError):
    """Not the index of a definition."""

    def __init__(self, value):
        self.value = value


class NoWord(LookupError):
    """Not the word of a definition."""

    def __init__(self, word):
        self.word = word


class NoVersion(LookupError):
    """Not a version of the session."""

    def __init__(self, value):
        self.value = value
