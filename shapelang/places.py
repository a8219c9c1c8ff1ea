"""The places of expressions and patterns."""

from shapelang.bounds import PLACES

# A place lies within at most so many others.
MOST_AROUND = 19
# The index of the first part of each form but match, in which the parts are nested otherwise.
FIRST_PARTS = {"number": 2, "word": 2, "hole": 1, "any": 1, "make": 2, "fun": 2, "call": 1, "let": 2, "op": 2}


def parts_of_place(place):
    """Return the tuple of the parts of an expression or a pattern, in the order in which they begin."""
    if place[0] == "match":
        return (place[1], *[part for row in place[2] for part in row])
    return place[FIRST_PARTS[place[0]]:]


def has_room(expression):
    """Whether an expression or a pattern has no more places and levels than it may have."""
    places = 0
    waiting = [(expression, 0)]
    while waiting:
        place, around = waiting.pop()
        places += 1
        if places > PLACES or around > MOST_AROUND:
            return False
        waiting.extend([(part, around + 1) for part in parts_of_place(place)])
    return True


def places_of(expression):
    """Return the list of all places of an expression or a pattern in order."""
    places = []
    waiting = [expression]
    while waiting:
        place = waiting.pop()
        places.append(place)
        waiting.extend(parts_of_place(place)[::-1])
    return places
