"""Layouts of expressions: all places with their numbers, and what binds each word."""

from shapelang.places import numbers_of_parts, places_of


class Layout:
    """The places of an expression in order; parts are the numbers of the parts of each place.

    binders are, by the numbers of the words in expressions, what binds them. A place that is a
    pattern, or lies in one, is in none of the scopes.
    """

    def __init__(self, expression):
        self.places = places_of(expression)
        self.parts = numbers_of_parts(self.places)
        self.scopes = {0: {}}
        self.binders = {}
        for number, place in enumerate(self.places):
            if number in self.scopes:
                self.look_at(number, place)

    def look_at(self, number, place):
        """Note the binder of a word, and the scopes of the parts of any other place."""
        scope = self.scopes[number]
        parts = self.parts[number]
        if place[0] == "word":
            self.binders[number] = scope[place[1]] if place[1] in scope else ("free",)
        elif place[0] == "match":
            self.put_scopes(parts[:1], scope)
            for pattern, part in zip(parts[1::2], parts[2::2]):
                self.put_scopes([part], {**scope, **self.words_bound(pattern)})
        elif place[0] in ("fun", "let"):
            self.put_scopes(parts[:-1], scope)
            self.put_scopes(parts[-1:], {**scope, place[1]: (place[0], number)})
        else:
            self.put_scopes(parts, scope)

    def put_scopes(self, numbers, scope):
        """Give places the words that are bound around them, each with its binder."""
        for number in numbers:
            self.scopes[number] = scope

    def words_bound(self, pattern):
        """Return the dict of the words that the pattern with this number binds."""
        words = {}
        for number in range(pattern, pattern + len(places_of(self.places[pattern]))):
            if self.places[number][0] == "word":
                # The last one binds.
                words[self.places[number][1]] = ("row", number)
        return words
