"""The code of a book and an expression, with the spots that its instructions come from.

A spot is a tuple (index, place). Entries of a frame are found by what binds the words, as layouts
tell it: these are the keys of the dicts called entries.
"""

from shapelang.layouts import Layout


class Block:
    """The instructions of a block, of the given length at first, and the spots that they come from."""

    def __init__(self, length):
        self.length = length
        self.rows = []
        self.spots = []

    def add(self, spot, *row):
        """Add an instruction and return its number."""
        self.rows.append(row)
        self.spots.append(spot)
        return len(self.rows) - 1

    def aim(self, numbers):
        """Make the instruction that follows the target of these ones, whose targets are not known yet."""
        for number in numbers:
            row = self.rows[number]
            self.rows[number] = tuple([len(self.rows) if item is None else item for item in row])

    def cut_to(self, many):
        """Keep the first instructions."""
        del self.rows[many:]
        del self.spots[many:]


class Source:
    """An expression, the one with this index; numbers are those of the blocks of its funs, by their places."""

    def __init__(self, index, expression, first):
        self.index = index
        self.layout = Layout(expression)
        funs = [number for number, place in enumerate(self.layout.places) if place[0] == "fun"]
        self.numbers = dict([(place, first + at) for at, place in enumerate(funs)])
        self.kept = self.kept_by(funs)

    def kept_by(self, funs):
        """Return, by the places of the funs, the dicts of what binds the words in them outside of them."""
        kept = dict([(place, {}) for place in funs])
        binders = self.layout.binders
        around = self.funs_around()
        for number in binders:
            if binders[number] != ("free",):
                for fun in around[number]:
                    # What is bound within a fun comes behind its beginning.
                    if fun > binders[number][1]:
                        kept[fun][binders[number]] = True
        return kept

    def funs_around(self):
        """Return, for each place, the tuple of the places of the funs around it."""
        around = [() for _ in self.layout.places]
        for number, parts in enumerate(self.layout.parts):
            inside = around[number]
            if self.layout.places[number][0] == "fun":
                inside = (*inside, number)
            for part in parts:
                around[part] = inside
        return around


class Coding:
    """The blocks of a book and an expression; spots are those of the funs of the blocks that are funs'."""

    def __init__(self, book, expression):
        definitions = book[1]
        self.globals_by_words = dict([(definition[0], index) for index, definition in enumerate(definitions)])
        expressions = [(len(definitions), expression)]
        expressions.extend([(index, definition[2]) for index, definition in enumerate(definitions)])
        self.blocks = {}
        self.spots = {}
        first = len(expressions)
        sources = []
        for index, one in expressions:
            sources.append(Source(index, one, first))
            first = first + len(sources[-1].numbers)
        for number, source in enumerate(sources):
            self.put(source, number, 0, {}, 0)

    def put(self, source, number, place, entries, length):
        """Write a block that gives what a place gives."""
        block = Block(length)
        self.blocks[number] = block
        Writing(self, source, block).write(place, entries, length, True)


class Writing:
    """A block that is being written.

    Each method gets a place, the entries of the words that are bound there, the number of entries,
    and whether the place is in last place.
    """

    def __init__(self, coding, source, block):
        self.coding = coding
        self.source = source
        self.layout = source.layout
        self.block = block

    def add(self, place, *row):
        """Add an instruction that comes from a place, and return its number."""
        return self.block.add((self.source.index, place), *row)

    def write(self, place, entries, length, last):
        """Write what gives what a place gives."""
        write_kind = WRITERS[self.layout.places[place][0]]
        write_kind(self, place, entries, length, last)

    def write_parts(self, place, entries, length):
        """Write what gives what the parts of a place give, one after another."""
        for part in self.layout.parts[place]:
            self.write(part, entries, length, False)

    def add_value(self, place, last, *row):
        """Add the instruction that gives a value, and the way back from last place."""
        self.add(place, *row)
        if last:
            self.add(place, "back")

    def add_tests(self, pattern, entry, entries, length):
        """Add the tests of a pattern for this entry; return their numbers, and the number of entries behind them.

        The entries of the words of the pattern are put into entries.
        """
        tests = []
        waiting = [(pattern, entry)]
        least = length
        while waiting:
            place, at = waiting.pop()
            part = self.layout.places[place]
            if part[0] == "word":
                entries[("row", place)] = at
            elif part[0] == "make":
                self.add(place, "load", at)
                tests.append(self.add(place, "test", part[1], None, least))
                parts = self.layout.parts[place]
                waiting.extend([(inner, length + index) for index, inner in enumerate(parts)][::-1])
                length = length + len(parts)
        return tests, length


def write_number(writing, place, entries, length, last):
    """Write a number."""
    writing.add_value(place, last, "push", writing.layout.places[place][1])


def write_word(writing, place, entries, length, last):
    """Write a word: an entry, or a definition."""
    binder = writing.layout.binders[place]
    if binder == ("free",):
        index = writing.coding.globals_by_words[writing.layout.places[place][1]]
        writing.add(place, "leave" if last else "global", index)
    else:
        writing.add_value(place, last, "load", entries[binder])


def write_make(writing, place, entries, length, last):
    """Write a make."""
    writing.write_parts(place, entries, length)
    writing.add_value(place, last, "build", writing.layout.places[place][1])


def write_op(writing, place, entries, length, last):
    """Write an op."""
    writing.write_parts(place, entries, length)
    writing.add_value(place, last, "op", writing.layout.places[place][1])


def write_fun(writing, place, entries, length, last):
    """Write a fun, and its own block."""
    source = writing.source
    kept = sorted([(entries[binder], binder) for binder in source.kept[place]])
    inner = dict([(binder, index) for index, (_, binder) in enumerate(kept)])
    inner[("fun", place)] = len(kept)
    number = source.numbers[place]
    writing.coding.spots[number] = (source.index, place)
    writing.coding.put(source, number, writing.layout.parts[place][0], inner, len(kept) + 1)
    writing.add_value(place, last, "closure", number, tuple([entry for entry, _ in kept]))


def write_call(writing, place, entries, length, last):
    """Write a call."""
    writing.write_parts(place, entries, length)
    writing.add(place, "tail" if last else "call")


def write_let(writing, place, entries, length, last):
    """Write a let."""
    first, second = writing.layout.parts[place]
    writing.write(first, entries, length, False)
    writing.add(place, "store")
    writing.write(second, {**entries, ("let", place): length}, length + 1, last)
    if not last:
        writing.add(place, "cut", length)


def write_match(writing, place, entries, length, last):
    """Write a match."""
    parts = writing.layout.parts[place]
    writing.write(parts[0], entries, length, False)
    writing.add(place, "store")
    jumps = []
    # Rows behind one that is met by all are left out, but the funs in them have their blocks.
    end = None
    for pattern, part in zip(parts[1::2], parts[2::2]):
        inside = {**entries}
        tests, many = writing.add_tests(pattern, length, inside, length + 1)
        writing.write(part, inside, many, last)
        if not last:
            writing.add(place, "cut", length)
            jumps.append(writing.add(place, "jump", None))
        writing.block.aim(tests)
        if not tests and end is None:
            end = len(writing.block.rows)
    if end is None:
        writing.add(place, "load", length)
        writing.add(place, "stop", writing.source.index, place)
    else:
        writing.block.cut_to(end)
    writing.block.aim([jump for jump in jumps if jump < len(writing.block.rows)])


WRITERS = {
    "number": write_number,
    "word": write_word,
    "make": write_make,
    "op": write_op,
    "fun": write_fun,
    "call": write_call,
    "let": write_let,
    "match": write_match,
}
