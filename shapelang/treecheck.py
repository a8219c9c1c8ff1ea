"""Whether a value is a right tree, whoever made it."""

from shapelang.formed import kind_of
from shapelang.names import is_integer
from shapelang.ways import can_be_met


def is_way(value):
    """Whether the value is a tuple of integers."""
    return isinstance(value, tuple) and all([is_integer(item) for item in value])


def shape_at(outset, value, known):
    """Return the number of the data shape at a way that may be looked at, None if the value is no such way.

    known are (Name, numbers of the parts) of the makers with which ways are known, by the ways.
    """
    if not is_way(value) or value in known:
        return None
    number = outset.family.first
    if value != ():
        if value[:-1] not in known:
            return None
        _, parts = known[value[:-1]]
        if not 0 <= value[-1] < len(parts):
            return None
        number = parts[value[-1]]
    return number if outset.family.is_data(number) else None


def are_branches(value, makers):
    """Whether the value is a tuple of pairs that begin with the Names of these makers."""
    if not isinstance(value, tuple) or len(value) != len(makers):
        return False
    if not all([isinstance(branch, tuple) and len(branch) == 2 for branch in value]):
        return False
    return all([branch[0] == name for branch, (name, _) in zip(value, makers)])


def meets_some(outset, makers, known):
    """Whether a row with these makers meets a form with the makers that are known."""
    if not can_be_met(makers, known):
        return False
    return all([name in outset.names_at(number) for _, name, number in makers])


def meets_all(outset, makers, known):
    """Whether a row with these makers meets each form with the makers that are known."""
    if not can_be_met(makers, known):
        return False
    # At a way that is not known, another maker that makes values would lead elsewhere.
    left = [(name, number) for way, name, number in makers if way not in known]
    return all([[name] == outset.names_at(number) for name, number in left])


def row_of_end(outset, value):
    """Return the number of the row at an end, the number of all rows for none, None if the value is no end."""
    if value == ("none",):
        return len(outset.rows)
    if kind_of(value) == "row" and len(value) == 2 and is_integer(value[1]) and value[1] >= 0:
        return value[1]
    return None


def is_right_end(outset, value, known):
    """Whether the value is an end to which just the right forms are led; known are the makers by ways."""
    row = row_of_end(outset, value)
    if row is None:
        return False
    if not outset.has_values():
        return True
    if any([meets_some(outset, makers, known) for makers in outset.rows[:row]]):
        return False
    if value[0] == "none":
        return True
    return row < len(outset.rows) and meets_all(outset, outset.rows[row], known)


def is_right_tree(outset, value):
    """Whether the value is a right tree for the rows."""
    waiting = [(value, {})]
    while waiting:
        tree, known = waiting.pop()
        if kind_of(tree) != "look":
            if not is_right_end(outset, tree, dict([(way, known[way][0]) for way in known])):
                return False
            continue
        number = shape_at(outset, tree[1], known) if len(tree) == 3 else None
        if number is None:
            return False
        makers = outset.branches_at(number)
        if not are_branches(tree[2], makers):
            return False
        waiting.extend([(branch[1], {**known, tree[1]: maker}) for branch, maker in zip(tree[2], makers)])
    return True
