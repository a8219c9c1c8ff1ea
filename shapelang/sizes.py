"""How large shapes are.

Operators of schemes call these functions, and operators may change nothing: so do they.
"""

from shapelang.bounds import DEPTH, NODES

# What is counted where there are too many levels: more nodes than a shape may have.
TOO_MANY = 1000


def parts_of_all(values):
    """Return the list of the parts of all tuples among these values, in order."""
    return [part for value in values if isinstance(value, tuple) for part in value[1:]]


def nodes_within(shape, levels):
    """Return the number of the nodes of a shape, more than NODES if there are so many, or more levels."""
    if not isinstance(shape, tuple):
        return 1
    if levels == 1 and len(shape) > 1:
        return TOO_MANY
    many = len(shape)
    for part in shape[1:]:
        if isinstance(part, tuple) and len(part) > 1:
            many = many + nodes_within(part, levels - 1) - 1
            if many > NODES:
                return TOO_MANY
    return many


def is_small(shape):
    """Whether a shape has no more nodes and levels than a shape that is passed may have."""
    return nodes_within(shape, DEPTH) <= NODES
