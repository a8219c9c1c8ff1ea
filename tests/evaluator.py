"""A second, plain evaluator: point 23 written down once more, by recursion, for the tests alone."""

import sys

sys.setrecursionlimit(100000)


class Ended(Exception):
    """The run ends here, with this outcome."""

    def __init__(self, outcome):
        self.outcome = outcome


class Function:
    """A function with the spot of its fun."""

    def __init__(self, spot, word, body, place, scope):
        self.spot, self.word, self.body, self.place, self.scope = spot, word, body, place, scope


def parts_of(expression):
    """The expressions and patterns in an expression or pattern."""
    kind = expression[0]
    if kind == "match":
        return [expression[1], *[part for row in expression[2] for part in row]]
    return list(expression[{"call": 1, "make": 2, "op": 2, "fun": 2, "let": 2}.get(kind, len(expression)):])


def count(expression):
    return 1 + sum(count(part) for part in parts_of(expression))


def shown(value):
    """The value as it is shown, by a plain count."""
    def nodes(part, level):
        if level > 100:
            raise OverflowError
        if isinstance(part, tuple):
            return 1 + sum(nodes(inner, level + 1) for inner in part[2:])
        return 1

    def plain(part):
        if isinstance(part, Function):
            return ("fun",)
        return (*part[:2], *[plain(inner) for inner in part[2:]]) if isinstance(part, tuple) else part

    try:
        return plain(value) if nodes(value, 1) <= 500 else ("large",)
    except OverflowError:
        return ("large",)


class Evaluation:
    """A run with at most so many steps."""

    def __init__(self, book, calls):
        self.definitions = book[1]
        self.words = [definition[0] for definition in book[1]]
        self.calls = calls
        self.steps = []

    def step(self, spot, target, argument):
        if len(self.steps) == self.calls:
            raise Ended(("open", spot))
        self.steps.append((spot, target, argument))

    def met(self, pattern, value, scope):
        """The scope with the words of the pattern, None if it does not meet the value."""
        if pattern[0] == "any":
            return scope
        if pattern[0] == "word":
            return {**scope, pattern[1]: value}
        if not isinstance(value, tuple) or value[1] != pattern[1]:
            return None
        for inner, part in zip(pattern[2:], value[2:]):
            scope = scope if scope is None else self.met(inner, part, scope)
        return scope

    def value(self, index, expression, place, scope):
        kind = expression[0]
        starts = [place + 1]
        for part in parts_of(expression):
            starts.append(starts[-1] + count(part))
        if kind == "number":
            return expression[1]
        if kind == "word":
            if expression[1] in scope:
                return scope[expression[1]]
            at = self.words.index(expression[1])
            self.step((index, place), (at, 0), None)
            return self.value(at, self.definitions[at][2], 0, {})
        if kind == "fun":
            return Function((index, place), expression[1], expression[2], place + 1, scope)
        if kind == "make":
            return ("make", expression[1], *[self.value(index, part, at, scope) for part, at in zip(expression[2:], starts)])
        if kind == "op":
            left, right = [self.value(index, part, at, scope) for part, at in zip(expression[2:], starts)]
            sign = expression[1]
            if sign in "<=":
                return ("make", str(left < right if sign == "<" else left == right))
            return {"+": left + right, "-": left - right, "*": left * right}[sign] % 10 ** 6
        if kind == "call":
            function, argument = [self.value(index, part, at, scope) for part, at in zip(expression[1:], starts)]
            self.step((index, place), function.spot, shown(argument))
            return self.value(function.spot[0], function.body, function.place, {**function.scope, function.word: argument})
        if kind == "let":
            first = self.value(index, expression[2], starts[0], scope)
            return self.value(index, expression[3], starts[1], {**scope, expression[1]: first})
        value = self.value(index, expression[1], starts[0], scope)
        for row, (pattern, part) in enumerate(expression[2]):
            inside = self.met(pattern, value, scope)
            if inside is not None:
                return self.value(index, part, starts[2 * row + 2], inside)
        raise Ended(("missing", shown(value), (index, place)))


def evaluated(book, expression, calls):
    """The outcome of an expression after at most so many steps, and the tuple of the steps that were made."""
    evaluation = Evaluation(book, calls)
    try:
        outcome = ("value", shown(evaluation.value(len(book[1]), expression, 0, {})))
    except Ended as end:
        outcome = end.outcome
    return outcome, tuple(evaluation.steps)
