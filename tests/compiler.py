"""A second compiler: point 25 written down once more, with labels and words, for the tests alone."""

from evaluator import count, parts_of


def preorder(expression):
    """All places of an expression or pattern, in order."""
    return [expression, *[inner for part in parts_of(expression) for inner in preorder(part)]]


def words_in(pattern):
    return {place[1] for place in preorder(pattern) if place[0] == "word"}


def free(expression):
    """The words that are free in an expression."""
    kind = expression[0]
    if kind == "word":
        return {expression[1]}
    if kind == "fun":
        return free(expression[2]) - {expression[1]}
    if kind == "let":
        return free(expression[2]) | free(expression[3]) - {expression[1]}
    if kind == "match":
        return free(expression[1]).union(*[free(part) - words_in(pattern) for pattern, part in expression[2]])
    return set().union(*[free(part) for part in parts_of(expression)])


class Label:
    """A place in the instructions that is not known yet."""


class Compiler:
    def __init__(self, book):
        self.book = book
        self.words = [definition[0] for definition in book[1]]
        self.blocks = {}
        self.funs = {}

    def number_funs(self, expressions):
        first = len(expressions)
        for index, expression in expressions:
            for place, part in enumerate(preorder(expression)):
                if part[0] == "fun":
                    self.funs[index, place] = first
                    first += 1

    def block(self, number, length, rows):
        """Put the block whose rows have labels in it."""
        targets, plain = {}, []
        for row in rows:
            if isinstance(row, Label):
                targets[row] = len(plain)
            else:
                plain.append(row)
        done = [tuple(targets[item] if isinstance(item, Label) else item for item in row) for row in plain]
        self.blocks[number] = (length, tuple(done))

    def starts(self, expression, place):
        """The places of the parts."""
        found = [place + 1]
        for part in parts_of(expression):
            found.append(found[-1] + count(part))
        return found

    def ended(self, last, *rows):
        return [*rows, ("back",)] if last else list(rows)

    def rows(self, index, expression, place, scope, length, last):
        kind = expression[0]
        starts = self.starts(expression, place)

        def part(at, scope=scope, length=length, last=False):
            return self.rows(index, parts_of(expression)[at], starts[at], scope, length, last)

        if kind == "number":
            return self.ended(last, ("push", expression[1]))
        if kind == "word":
            if expression[1] in scope:
                return self.ended(last, ("load", scope[expression[1]]))
            return [("leave" if last else "global", self.words.index(expression[1]))]
        if kind == "make":
            inner = [row for at in range(len(expression) - 2) for row in part(at)]
            return self.ended(last, *inner, ("build", expression[1]))
        if kind == "op":
            return self.ended(last, *part(0), *part(1), ("op", expression[1]))
        if kind == "call":
            return [*part(0), *part(1), ("tail",) if last else ("call",)]
        if kind == "fun":
            kept = sorted({scope[name] for name in free(expression) if name in scope})
            inside = {name: kept.index(scope[name]) for name in free(expression) if name in scope}
            inside[expression[1]] = len(kept)
            number = self.funs[index, place]
            self.block(number, len(kept) + 1, self.rows(index, expression[2], place + 1, inside, len(kept) + 1, True))
            return self.ended(last, ("closure", number, tuple(kept)))
        if kind == "let":
            inside = {**scope, expression[1]: length}
            end = [] if last else [("cut", length)]
            return [*part(0), ("store",), *part(1, inside, length + 1, last), *end]
        found = [*part(0), ("store",)]
        behind, left_out = Label(), False
        for number, (pattern, _) in enumerate(expression[2]):
            following = Label()
            tests, inside, many = self.tests(pattern, length, scope, length + 1, following, length + 1)
            inner = part(2 * number + 2, inside, many, last)
            rows = [*tests, *inner, *([] if last else [("cut", length), ("jump", behind)]), following]
            found += [] if left_out else rows
            left_out = left_out or not tests
        if not left_out:
            found += [("load", length), ("stop", index, place)]
        return [*found, behind]

    def tests(self, pattern, entry, scope, length, following, kept):
        if pattern[0] == "word":
            return [], {**scope, pattern[1]: entry}, length
        if pattern[0] == "any":
            return [], scope, length
        rows = [("load", entry), ("test", pattern[1], following, kept)]
        first, length = length, length + len(pattern) - 2
        for at, inner in enumerate(pattern[2:]):
            more, scope, length = self.tests(inner, first + at, scope, length, following, kept)
            rows += more
        return rows, scope, length


def compiled_plainly(book, expression):
    compiler = Compiler(book)
    expressions = [(len(book[1]), expression), *[(index, definition[2]) for index, definition in enumerate(book[1])]]
    compiler.number_funs(expressions)
    for number, (index, part) in enumerate(expressions):
        compiler.block(number, 0, compiler.rows(index, part, 0, {}, 0, True))
    blocks = tuple(compiler.blocks[number] for number in range(len(compiler.blocks)))
    return 0, tuple(range(1, len(expressions))), blocks
