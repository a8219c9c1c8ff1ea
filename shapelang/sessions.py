"""Sessions: accepted books that are edited, with undo."""

from shapelang.editing import check_batch, edited, is_edit_form
from shapelang.errors import BadDatas, BadExpression, Busy, Incomplete, LangError, NothingToUndo, NoVersion, NoWord
from shapelang.errors import Rejected, TooManyEdits
from shapelang.inferring import infer
from shapelang.judging import matches_of
from shapelang.names import is_integer
from shapelang.programs import datas_error, expression_error
from shapelang.readers import parse_book, parse_expression
from shapelang.running import run
from shapelang.schemes import Scheme


class Session:
    """Definitions that are an accepted book with the datas of the session.

    The past has what stood after each edit that stands, and at first what stood ahead of all: the
    edit, the definitions, their verdicts, and the words whose definitions the edit inferred.
    """

    MOST_EDITS = 60

    def __init__(self, datas):
        error = datas_error(datas)
        if error is not None:
            raise BadDatas(error)
        self._datas = datas
        self._past = ((None, (), (), ()),)
        self._busy = False

    @classmethod
    def read(cls, text):
        """Return a session with the datas and the definitions of the text of a book."""
        datas, definitions = parse_book(text)
        session = cls(datas)
        for word, signature, expression in definitions:
            session.define(word, signature, expression)
        return session

    @staticmethod
    def is_edit(value):
        """Return whether the value is an edit."""
        return is_edit_form(value)

    def define(self, word, signature, expression):
        """Add a definition at the end and return the new version."""
        return self._edit(("define", word, signature, expression))

    def change(self, word, signature, expression):
        """Put a definition in the place of that with this word and return the new version."""
        return self._edit(("change", word, signature, expression))

    def remove(self, word):
        """Take a definition away and return the new version."""
        return self._edit(("remove", word))

    def undo(self):
        """Remove the last edit that stands and return the new version."""
        self._check_free()
        if len(self._past) == 1:
            raise NothingToUndo()
        self._past = self._past[:-1]
        return self.version

    def run(self, edits, *, on_step=None):
        """Do the edits in order, all or none of them, and return the new version."""
        self._check_free()
        check_batch(edits)
        batch = list(edits)
        before = self._past
        done = None
        try:
            for index, edit in enumerate(batch):
                self._edit_of_batch(index, edit)
                if on_step is not None:
                    self._busy = True
                    on_step(self)
                    self._busy = False
            done = True
        finally:
            self._busy = False
            if done is None:
                self._past = before
        return self.version

    @property
    def version(self):
        """The number of the edits that stand."""
        return len(self._past) - 1

    @property
    def book(self):
        """The datas and the definitions."""
        return (self._datas, self._past[-1][1])

    @property
    def inferred(self):
        """The words whose definitions the last edit inferred."""
        return self._past[-1][3]

    def state(self, *, version=None):
        """Return the book, or that of a version."""
        if version is None:
            return self.book
        if not is_integer(version) or not 0 <= version < len(self._past):
            raise NoVersion(version)
        return (self._datas, self._past[version][1])

    def edits(self):
        """Return the tuple of the edits that stand."""
        return tuple([edit for edit, _, _, _ in self._past[1:]])

    def history(self):
        """Yield (version, book) for each version."""
        for version, (_, definitions, _, _) in enumerate(self._past):
            yield (version, (self._datas, definitions))

    def __call__(self, text, calls=100):
        """Return the text of the scheme of an expression, and its outcome."""
        expression = parse_expression(text)
        known = self._known()
        error = expression_error(self._datas, known, expression)
        if error is not None:
            raise BadExpression(error)
        scheme = infer(self._datas, known, expression)
        outcome, _ = run(self.book, expression, calls)
        return str(scheme), outcome

    def __getitem__(self, word):
        _, definitions, verdicts, _ = self._past[-1]
        for definition, verdict in zip(definitions, verdicts):
            if isinstance(word, str) and definition[0] == word:
                return Scheme(verdict[1])
        raise NoWord(word)

    def __contains__(self, word):
        return isinstance(word, str) and word in [definition[0] for definition in self._past[-1][1]]

    def __iter__(self):
        raise TypeError("a session is not iterated over")

    def __len__(self):
        return len(self._past[-1][1])

    def __eq__(self, other):
        if not isinstance(other, Session):
            return False
        return self._datas == other._datas and self._past[-1][1] == other._past[-1][1]

    def __str__(self):
        return f"{len(self._past[-1][1])} definitions, {len(self._past) - 1} edits"

    def _known(self):
        """Return the tuple of pairs (word, shape) of the definitions."""
        _, definitions, verdicts, _ = self._past[-1]
        return tuple([(definition[0], verdict[1]) for definition, verdict in zip(definitions, verdicts)])

    def _check_free(self):
        """Raise Busy while a batch is being done."""
        if self._busy:
            raise Busy()

    def _edit(self, edit):
        """Do an edit and return the new version."""
        self._check_free()
        if self.version >= self.MOST_EDITS:
            raise TooManyEdits()
        definitions, verdicts, indexes = edited(self.book, self._past[-1][2], edit)
        self._check_matches(definitions, verdicts, indexes)
        words = tuple(sorted([definitions[index][0] for index in indexes]))
        self._past = (*self._past, (edit, definitions, verdicts, words))
        return self.version

    def _edit_of_batch(self, index, edit):
        """Do the edit of a batch with this index."""
        try:
            self._edit(edit)
        except (LangError, NoWord):
            raise Rejected(index)

    def _check_matches(self, definitions, verdicts, indexes):
        """Look at the matches of the definitions that were inferred; here none has to be complete."""


class StrictSession(Session):
    """A session in which each match of each definition is complete."""

    def __init__(self, datas):
        super().__init__(datas)

    def _check_matches(self, definitions, verdicts, indexes):
        """Raise Incomplete for the first match, of the definitions that were inferred, that is not complete.

        The matches of the other ones are over the same shapes as before.
        """
        for index in indexes:
            word, _, expression = definitions[index]
            known = tuple([(one[0], verdict[1]) for one, verdict in zip(definitions[:index], verdicts)])
            for place, outline, _ in matches_of(self._datas, known, expression, own=word):
                if outline is not None:
                    raise Incomplete(word, place, outline)


class LoggedSession(Session):
    """A session with a log of the calls that changed it."""

    def __init__(self, datas):
        super().__init__(datas)
        self._log = ()

    @property
    def log(self):
        """The tuple of the rows of the log: the name of the method, the version, and what was inferred."""
        return self._log

    def define(self, word, signature, expression):
        """Add a definition at the end and return the new version."""
        return self._logged("define", super().define(word, signature, expression))

    def change(self, word, signature, expression):
        """Put a definition in the place of that with this word and return the new version."""
        return self._logged("change", super().change(word, signature, expression))

    def remove(self, word):
        """Take a definition away and return the new version."""
        return self._logged("remove", super().remove(word))

    def undo(self):
        """Remove the last edit that stands and return the new version."""
        return self._logged("undo", super().undo())

    def run(self, edits, *, on_step=None):
        """Do the edits in order, all or none of them, and return the new version."""
        return self._logged("run", super().run(edits, on_step=on_step))

    def _logged(self, name, version):
        """Add a row to the log and return the version."""
        self._log = (*self._log, (name, version, self.inferred))
        return version


class LoggedStrictSession(LoggedSession, StrictSession):
    """A session with a log, in which each match of each definition is complete."""

    def __init__(self, datas):
        super().__init__(datas)
