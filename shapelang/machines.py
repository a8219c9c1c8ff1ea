"""Machines that run codes, step by step."""

from shapelang.worths import made, result_of


class Machine:
    """A run of a code: its blocks, lists of instructions, and the indexes of those of the definitions.

    It stands at an instruction of a block; roads are those to which blocks go back. most is the
    greatest number of blocks that were entered and not left at the same time. end is None up to
    the end of the run, and then ("value", worth), ("missing", worth, spot) or ("odd",).
    """

    def __init__(self, makers, blocks, starts, main):
        self.makers = makers
        self.blocks = blocks
        self.starts = starts
        self.block = main
        self.at = 0
        self.frame = []
        self.stack = []
        self.roads = []
        self.most = 1
        self.end = None

    def go_on(self):
        """Go on up to the next step, which is not made yet, or to the end; return whether a step follows."""
        while self.end is None:
            kind = self.advance()
            if kind == "back" and self.roads:
                self.block, self.at, self.frame = self.roads.pop()
            elif kind == "back":
                self.end = ("value", self.stack.pop())
            elif kind == "stop":
                _, index, place = self.blocks[self.block][self.at]
                self.end = ("missing", self.stack.pop(), (index, place))
            elif kind == "odd" or (kind in ("call", "tail") and not is_function(self.stack[-2])):
                self.end = ("odd",)
            else:
                return True
        return False

    def make_step(self):
        """Make the step at which the machine stands."""
        row = self.blocks[self.block][self.at]
        if row[0] in ("call", "global"):
            self.roads.append((self.block, self.at + 1, self.frame))
            self.most = max(self.most, len(self.roads) + 1)
        self.at = 0
        if row[0] in ("global", "leave"):
            self.block = self.starts[row[1]]
            self.frame = []
        else:
            argument = self.stack.pop()
            _, self.block, entries = self.stack.pop()
            self.frame = [*entries, argument]

    def advance(self):
        """Do the instructions up to one that enters or leaves a block or ends the run; return its kind, or "odd"."""
        rows, stack, frame = self.blocks[self.block], self.stack, self.frame
        at = self.at
        while True:
            row = rows[at]
            kind = row[0]
            if kind == "load":
                stack.append(frame[row[1]])
            elif kind == "push":
                stack.append(row[1])
            elif kind == "test" or kind == "jump":
                following = row[1] if kind == "jump" else self.tested(row, at)
                if following is None:
                    kind = "odd"
                    break
                at = following
                continue
            elif kind == "store":
                frame.append(stack.pop())
            elif kind == "cut":
                del frame[row[1]:]
            elif kind == "closure":
                stack.append(("fun", row[1], tuple([frame[entry] for entry in row[2]])))
            elif kind == "build":
                self.build(row[1])
            elif kind == "op":
                if isinstance(stack[-1], tuple) or isinstance(stack[-2], tuple):
                    kind = "odd"
                    break
                right = stack.pop()
                stack.append(result_of(row[1], stack.pop(), right))
            else:
                break
            at += 1
        self.at = at
        return kind

    def build(self, name):
        """Push what a maker makes of the values on the stack."""
        start = len(self.stack) - len(self.makers[name][2])
        worth = made(name, tuple(self.stack[start:]))
        del self.stack[start:]
        self.stack.append(worth)

    def tested(self, row, at):
        """Do the test at this instruction; return the one to go on at, None if the value is odd."""
        worth = self.stack.pop()
        if not isinstance(worth, tuple) or worth[0] != "make":
            return None
        if worth[1] == row[1]:
            self.frame.extend(worth[2])
            return at + 1
        del self.frame[row[3]:]
        return row[2]


def is_function(worth):
    """Whether this is a function."""
    return isinstance(worth, tuple) and worth[0] == "fun"
