"""Runs of expressions with a book, and their steps."""

from shapelang.bounds import CALLS
from shapelang.coding import Block, Coding
from shapelang.errors import BadCount, HasHole, NoWord
from shapelang.machines import Machine
from shapelang.makers import maker_table
from shapelang.names import is_integer
from shapelang.places import places_of
from shapelang.worths import shown, worth_of

# What has no hole, where an expression must stand.
NUMBER = ("number", 0)


def check_holes(book, expression):
    """Raise HasHole with the first hole of the expression, then of the definitions, if there is one."""
    definitions = book[1]
    expressions = [(len(definitions), expression)]
    expressions.extend([(index, definition[2]) for index, definition in enumerate(definitions)])
    for index, one in expressions:
        for place, part in enumerate(places_of(one)):
            if part[0] == "hole":
                raise HasHole((index, place))


def check_calls(calls):
    """Raise BadCount if the value is not a number of steps that may be made."""
    if not is_integer(calls) or not 0 <= calls <= CALLS:
        raise BadCount(calls)


class Running:
    """A run of a coding whose main block is this one."""

    def __init__(self, book, coding, main):
        self.coding = coding
        self.codes = dict([(number, coding.blocks[number].rows) for number in coding.blocks])
        self.codes[0] = main.rows
        self.spots = dict([(number, coding.blocks[number].spots) for number in coding.blocks])
        self.spots[0] = main.spots
        # Block 0 is the main one, those of the definitions follow.
        starts = list(range(1, len(book[1]) + 1))
        self.machine = Machine(maker_table(book[0]), self.codes, starts, 0)

    def spot_now(self):
        """Return the spot of the step at which the run stands."""
        return self.spots[self.machine.block][self.machine.at]

    def step(self):
        """Return (spot, target, argument) of the step at which the run stands."""
        row = self.codes[self.machine.block][self.machine.at]
        if row[0] in ("global", "leave"):
            return (self.spot_now(), (row[1], 0), None)
        function, argument = self.machine.stack[-2:]
        return (self.spot_now(), self.coding.spots[function[1]], shown(argument))

    def outcome(self):
        """Return the outcome of the run up to here."""
        end = self.machine.end
        return ("open", self.spot_now()) if end is None else (end[0], shown(end[1]), *end[2:])


def begun(book, expression):
    """Return the run of an expression, at its beginning."""
    coding = Coding(book, expression)
    return Running(book, coding, coding.blocks[0])


def made_steps(machine, calls):
    """Make at most so many steps, and return how many were made."""
    made = 0
    while machine.go_on() and made < calls:
        machine.make_step()
        made += 1
    return made


def run(book, expression, calls):
    """Return the outcome of an expression after at most so many steps, and how many were made."""
    check_holes(book, expression)
    check_calls(calls)
    running = begun(book, expression)
    made = made_steps(running.machine, calls)
    return running.outcome(), made


def calling(book, index, values):
    """Return a block that calls the definition with this index with these values."""
    here = len(book[1])
    block = Block(0)
    block.add((here, len(values)), "global" if values else "leave", index)
    for number, value in enumerate(values):
        block.add((here, number), "push", worth_of(value))
        block.add((here, number), "tail" if number == len(values) - 1 else "call")
    return block


def run_word(book, word, values, calls):
    """Return what run does for the word of a definition that is called with these values."""
    check_holes(book, NUMBER)
    check_calls(calls)
    words = [definition[0] for definition in book[1]]
    if not isinstance(word, str) or word not in words:
        raise NoWord(word)
    running = Running(book, Coding(book, NUMBER), calling(book, words.index(word), values))
    made = made_steps(running.machine, calls)
    return running.outcome(), made


def trace(book, expression, calls):
    """Return the tuple of the steps (spot, target, argument) that run makes."""
    check_holes(book, expression)
    check_calls(calls)
    running = begun(book, expression)
    steps = []
    while len(steps) < calls and running.machine.go_on():
        steps.append(running.step())
        running.machine.make_step()
    return tuple(steps)


def each_step(book, expression):
    """Yield the steps of the run of an expression, one after another."""
    check_holes(book, expression)
    running = begun(book, expression)
    while running.machine.go_on():
        yield running.step()
        running.machine.make_step()
