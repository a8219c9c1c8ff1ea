"""The words that are free in an expression."""

from shapelang.layouts import Layout


def free_words(expression):
    """Return the dict of the words that are free in an expression."""
    layout = Layout(expression)
    free = [place for place in layout.binders if layout.binders[place] == ("free",)]
    return dict([(layout.places[place][1], True) for place in free])
