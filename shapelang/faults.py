"""The first fault of a program: the path to the first place that is wrong by itself, and a word."""

from shapelang.formed import is_expression_form, is_pattern_form
from shapelang.places import parts_of_place, places_of


def is_unknown_make(makers, place):
    """Whether the place is a make whose maker is not known or has another number of parts."""
    if place[0] != "make":
        return False
    return place[1] not in makers or len(makers[place[1]][2]) != len(place) - 2


def pattern_fault(makers, pattern, path):
    """Return the first fault of a pattern with this path, None if it has none."""
    words = {}
    waiting = [(pattern, path)]
    while waiting:
        part, at = waiting.pop()
        if not is_pattern_form(part):
            return (at, "form")
        if is_unknown_make(makers, part):
            return (at, "maker")
        if part[0] == "word":
            if part[1] in words:
                return (at, "twice")
            words[part[1]] = True
        parts = parts_of_place(part)
        waiting.extend([(parts[index], (*at, index)) for index in range(len(parts) - 1, -1, -1)])
    return None


def words_of(pattern):
    """Return the dict of the words of a pattern."""
    return dict([(place[1], True) for place in places_of(pattern) if place[0] == "word"])


def own_fault(makers, place, words):
    """Return what is wrong with a place of an expression by itself, None if nothing is."""
    if not is_expression_form(place):
        return "form"
    if is_unknown_make(makers, place):
        return "maker"
    if place[0] == "word" and place[1] not in words:
        return "free"
    return None


def next_looks(place, path, words):
    """Return the list of the looks at the parts of a place, each (part, path, words, patterns).

    patterns are a tuple of the pattern that is looked at just ahead of the expression of its row.
    """
    parts = parts_of_place(place)
    if place[0] == "match":
        rows = [(parts[index], (*path, index), words, (parts[index - 1],)) for index in range(2, len(parts), 2)]
        return [(parts[0], (*path, 0), words, ()), *rows]
    looks = [(part, (*path, index), words, ()) for index, part in enumerate(parts)]
    if place[0] in ("fun", "let"):
        last = (parts[-1], (*path, len(parts) - 1), {**words, place[1]: True}, ())
        return [*looks[:-1], last]
    return looks


def expression_fault(makers, words, expression):
    """Return the first fault of an expression in which these words may be free, None if it has none."""
    waiting = [(expression, (), words, ())]
    while waiting:
        place, path, bound, patterns = waiting.pop()
        for pattern in patterns:
            fault = pattern_fault(makers, pattern, (*path[:-1], path[-1] - 1))
            if fault is not None:
                return fault
            bound = {**bound, **words_of(pattern)}
        fault = own_fault(makers, place, bound)
        if fault is not None:
            return (path, fault)
        waiting.extend(next_looks(place, path, bound)[::-1])
    return None
