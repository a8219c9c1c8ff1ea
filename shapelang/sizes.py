"""How large shapes are."""

from shapelang.bounds import DEPTH, NODES


def parts_of_all(values):
    """Return the list of the parts of all tuples among these values, in order."""
    return [part for value in values if isinstance(value, tuple) for part in value[1:]]


def small_nodes(value):
    """Return the list of what would be the nodes of the value, None if these are too many nodes or levels."""
    nodes = []
    level = [value]
    for _ in range(DEPTH):
        nodes.extend(level)
        if len(nodes) > NODES:
            return None
        level = parts_of_all(level)
        if not level:
            return nodes
    return None


def is_small(shape):
    """Whether a shape has no more nodes and levels than a shape that is passed may have."""
    return small_nodes(shape) is not None
