"""Plain definitions, and the full calls in their bodies."""

from shapelang.books import uses_at
from shapelang.bounds import PARAMETERS
from shapelang.layouts import Layout
from shapelang.places import places_of

FREE = ("free",)


def count_parameters(expression):
    """Return the number of the funs at the beginning of an expression."""
    many = 0
    while expression[0] == "fun":
        expression = expression[2]
        many += 1
    return many


class Body:
    """The body of the definition with this index, which has so many parameters.

    Places are those of the whole expression: the funs of the parameters come first.
    """

    def __init__(self, book, index):
        self.word, _, expression = book[1][index]
        self.many = count_parameters(expression)
        self.layout = Layout(expression)
        self.counts = dict([(word, count_parameters(part)) for word, _, part in book[1][:index + 1]])

    def kinds(self):
        """Return the list of what the places of the body are."""
        return [place[0] for place in self.layout.places[self.many:]]

    def binder(self, place):
        """Return the binder of a word, None for other places."""
        return self.layout.binders.get(place, None)

    def chains(self):
        """Return the list of (place, what is called, arguments) of the calls in the body, all as places.

        Calls of what other calls give are in one chain with them. A free word that is not called
        is a chain without arguments.
        """
        places, parts = self.layout.places, self.layout.parts
        inside = list(range(self.many, len(places)))
        called = dict([(parts[place][0], True) for place in inside if places[place][0] == "call"])
        found = []
        for place in inside:
            if place in called:
                continue
            head = place
            arguments = []
            while places[head][0] == "call":
                head, argument = parts[head]
                arguments = [argument, *arguments]
            if arguments or self.binder(place) == FREE:
                found.append((place, head, arguments))
        return found

    def is_full(self, head, arguments):
        """Whether a chain is a full call of a definition."""
        return self.binder(head) == FREE and self.counts[self.layout.places[head][1]] == len(arguments)

    def is_plain(self):
        """Whether the definition is plain if those that it uses are."""
        if self.many > PARAMETERS or "fun" in self.kinds() or "hole" in self.kinds():
            return False
        return all([self.is_full(head, arguments) for _, head, arguments in self.chains()])

    def traced(self):
        """Return the dict of (parameter, "same" or "less") of what binds the words that are traced."""
        found = dict([(("fun", number), (number, "same")) for number in range(self.many)])
        for place, part in enumerate(self.layout.places):
            if part[0] not in ("let", "match"):
                continue
            parts = self.layout.parts[place]
            whole = found.get(self.binder(parts[0]), None)
            if whole is not None and part[0] == "let":
                found[("let", place)] = whole
            elif whole is not None:
                for pattern in parts[1::2]:
                    # What is no word in the pattern binds nothing.
                    for inner in range(pattern, pattern + len(places_of(self.layout.places[pattern]))):
                        found[("row", inner)] = whole if inner == pattern else (whole[0], "less")
        return found

    def graphs(self):
        """Return the list of the graphs of the full calls of the definition by itself."""
        traced = self.traced()
        chains = [chain for chain in self.chains() if self.layout.places[chain[1]][1] == self.word]
        return [tuple([traced.get(self.binder(place), ()) for place in arguments]) for _, _, arguments in chains]


def reached(book, index):
    """Return the ascending list of the definitions that this one is or uses, directly or through others."""
    found = {index: True}
    for at in range(index, -1, -1):
        if at in found:
            for earlier in uses_at(book, at):
                found[earlier] = True
    return sorted(found)


def first_not_plain(book, index):
    """Return the least index of a definition that this one is or uses and that is not plain, None for none."""
    # What uses one that is not plain has a greater index.
    for at in reached(book, index):
        if not Body(book, at).is_plain():
            return at
    return None
