"""Rows: patterns for a shape, and which of them meets a form or a value."""

from shapelang.bounds import PLACES, ROWS
from shapelang.errors import NotMet
from shapelang.families import Family
from shapelang.formed import is_pattern_form
from shapelang.places import has_room, places_of


def row_fault(family, pattern, path):
    """Return the first fault of a row with this path, None if it has none."""
    words = {}
    waiting = [(pattern, path, family.first)]
    while waiting:
        part, at, number = waiting.pop()
        if not is_pattern_form(part):
            return (at, "form")
        if part[0] == "word":
            if part[1] in words:
                return (at, "twice")
            words[part[1]] = True
        if part[0] == "make":
            shapes = family.parts_of(number, part[1])
            if shapes is None or len(shapes) != len(part) - 2:
                return (at, "maker")
            inner = [(part[2 + index], (*at, index), shape) for index, shape in enumerate(shapes)]
            waiting.extend(inner[::-1])
    return None


def rows_error(datas, shape, value):
    """Return None for rows, otherwise the path to the first pattern that is wrong, and a word."""
    family = Family(datas, shape)
    if not isinstance(value, tuple) or len(value) > ROWS:
        return (None, "rows")
    for index, pattern in enumerate(value):
        fault = row_fault(family, pattern, (index,))
        if fault is not None:
            return fault
    if not all([has_room(pattern) for pattern in value]):
        return (None, "size")
    return (None, "size") if sum([len(places_of(pattern)) for pattern in value]) > PLACES else None


def is_made_by(form, pattern):
    """Whether a form or value was made by the maker of a make pattern."""
    return isinstance(form, tuple) and form[:2] == pattern[:2] and len(form) == len(pattern)


def words_met(pattern, form):
    """Return the list of pairs (word, part) of the words of the pattern, None if it does not meet the form."""
    pairs = []
    waiting = [(pattern, form)]
    while waiting:
        inner, part = waiting.pop()
        if inner[0] == "word":
            pairs.append((inner[1], part))
        elif inner[0] == "make":
            if not is_made_by(part, inner):
                return None
            waiting.extend(list(zip(inner[:1:-1], part[:1:-1])))
    return pairs


def meets(pattern, form):
    """Return whether the pattern meets a form or value."""
    return words_met(pattern, form) is not None


def first_row(rows, form):
    """Return the index of the first row that meets a form or value, None if none does."""
    for index, pattern in enumerate(rows):
        if meets(pattern, form):
            return index
    return None


def bound_by(pattern, value):
    """Return the tuple of pairs (word, part) of the words of the pattern, in the order of their places."""
    pairs = words_met(pattern, value)
    if pairs is None:
        raise NotMet(value)
    return tuple(pairs)
