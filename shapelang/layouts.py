"""Layouts of expressions: all places with their numbers, and what binds each word.

Words that are bound around a place are a scope: a pair (table, scope further out), None if there
are none. A table has what binds each of its words.
"""


class Layout:
    """The places of an expression in order; parts are the lists of the numbers of the parts of each place.

    binders are, by the numbers of the words in expressions, what binds them. patterns are the
    numbers of the places that are patterns or lie in one.
    """

    def __init__(self, expression):
        self.places = []
        self.parts = []
        self.binders = {}
        self.patterns = {}
        roots = []
        # Of each place that waits: the list of the parts that it is one of, the scope around it, and
        # in a pattern the table of its row.
        waiting = [(expression, roots, None, None)]
        while waiting:
            part, others, scope, words = waiting.pop()
            number = len(self.places)
            own = []
            others.append(number)
            self.places.append(part)
            self.parts.append(own)
            if words is not None:
                self.patterns[number] = True
                waiting.extend(inner_patterns(part, number, own, words))
            elif part[0] == "word":
                self.binders[number] = binder_in(scope, part[1])
            else:
                waiting.extend(inner_places(part, number, own, scope))


def binder_in(scope, word):
    """Return what binds a word in a scope."""
    while scope is not None:
        table, scope = scope
        if word in table:
            return table[word]
    return ("free",)


def inner_patterns(pattern, number, own, words):
    """Return the list of the parts of a pattern that wait, the first one last; note the word that it binds."""
    if pattern[0] == "word":
        # Of equal words the last one binds.
        words[pattern[1]] = ("row", number)
    if pattern[0] != "make":
        return []
    return [(part, own, None, words) for part in pattern[:1:-1]]


def inner_places(place, number, own, scope):
    """Return the list of the parts of an expression that wait, the first one last."""
    kind = place[0]
    if kind == "match":
        waiting = []
        for pattern, part in place[2][::-1]:
            words = {}
            waiting.append((part, own, (words, scope), None))
            waiting.append((pattern, own, None, words))
        waiting.append((place[1], own, scope, None))
        return waiting
    if kind == "fun":
        return [(place[2], own, ({place[1]: (kind, number)}, scope), None)]
    if kind == "let":
        return [(place[3], own, ({place[1]: (kind, number)}, scope), None), (place[2], own, scope, None)]
    if kind == "call":
        return [(place[2], own, scope, None), (place[1], own, scope, None)]
    if kind == "make" or kind == "op":
        return [(part, own, scope, None) for part in place[:1:-1]]
    return []


def binder_at(expression, place):
    """Return what binds the word at a place, None if it is no word in an expression; () if there is no such place."""
    number = 0
    waiting = [(expression, [], None, None)]
    while waiting:
        part, own, scope, words = waiting.pop()
        if number == place:
            return binder_in(scope, part[1]) if words is None and part[0] == "word" else None
        if words is not None:
            waiting.extend(inner_patterns(part, number, own, words))
        elif len(part) > 2 or part[0] == "match":
            waiting.extend(inner_places(part, number, own, scope))
        number += 1
    return ()
