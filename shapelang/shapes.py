"""Shapes: what they are, their variables, their instances and what two of them have in common.

Operators of schemes call these functions, and operators may change nothing: therefore each
function here changes only lists and dicts that it has made itself.
"""

from shapelang.binding import LONG, bound, members_of_links, order_of
from shapelang.bounds import DEPTH, NODES, VARIABLES
from shapelang.errors import TooLarge
from shapelang.names import is_integer, is_name
from shapelang.sizes import TOO_MANY, is_small, parts_of_all
from shapelang.unifying import numbered, solved, written

# The most parts that a Name may have behind it.
MOST_PARTS = 3
INT = ("Int",)
BOOL = ("Bool",)
# Beyond all variables, also those of callers who go somewhat beyond the bound.
APART = 1000000


def is_front(name, many):
    """Whether a shape may begin with this value and have so many items."""
    if name == "->":
        return many == 3
    return many <= MOST_PARTS + 1 and is_name(name)


def is_variable(value):
    """Whether the value is a variable."""
    return is_integer(value) and 0 <= value <= VARIABLES


def are_formed(values):
    """Whether each of these values is a variable, or may be a shape by its own items."""
    # Most tuples begin in the same few ways: each way is looked at once.
    fronts = {}
    for value in values:
        if not isinstance(value, tuple):
            if not is_variable(value):
                return False
        elif len(value) == 0 or not isinstance(value[0], str):
            return False
        elif (value[0], len(value)) not in fronts:
            if not is_front(value[0], len(value)):
                return False
            fronts[(value[0], len(value))] = True
    return True


def are_shapes(values):
    """Whether each of these values is a shape, of whatever size."""
    level = list(values)
    while level:
        if not are_formed(level):
            return False
        level = parts_of_all(level)
    return True


def is_formed(value):
    """Whether the value is a shape, of whatever size."""
    return are_shapes([value])


def formed_nodes(value, levels):
    """Return the number of the nodes of a shape that is a tuple, more than NODES if it is none or too large.

    The value is a tuple, and there are no more levels left than these.
    """
    if levels == 0 or len(value) == 0:
        return TOO_MANY
    # What is_front asks, without a call.
    if value[0] == "->":
        if len(value) != 3:
            return TOO_MANY
    elif len(value) > MOST_PARTS + 1 or not is_name(value[0]):
        return TOO_MANY
    many = 1
    for part in value[1:]:
        if isinstance(part, tuple):
            # Most innermost tuples are these two.
            known = levels > 1 and (part == INT or part == BOOL)
            many = many + (1 if known else formed_nodes(part, levels - 1))
        elif isinstance(part, int) and levels > 1 and 0 <= part <= VARIABLES and not isinstance(part, bool):
            many += 1
        else:
            return TOO_MANY
    return many if many <= NODES else TOO_MANY


def nodes_of(value):
    """Return the number of the nodes of a shape, more than NODES if the value is none."""
    if isinstance(value, tuple):
        return formed_nodes(value, DEPTH)
    return 1 if is_variable(value) else TOO_MANY


def is_shape(value):
    """Whether the value is a shape."""
    return nodes_of(value) <= NODES


def variables_of(shape):
    """Return the tuple of the variables in the order in which they occur first."""
    found = {}
    waiting = [shape]
    while waiting:
        part = waiting.pop()
        if isinstance(part, tuple):
            waiting.extend(part[:0:-1])
        else:
            found[part] = True
    return tuple(found)


def variables_if_shape(value):
    """Return the tuple of the variables of a shape in the order in which they occur first, None if it is none."""
    found = {}
    nodes = 0
    waiting = [value]
    while waiting:
        part = waiting.pop()
        nodes += 1
        if isinstance(part, tuple):
            if len(part) == 0 or nodes > NODES or not is_front(part[0], len(part)):
                return None
            if len(part) > 1:
                waiting.extend(part[:0:-1])
        elif isinstance(part, int) and 0 <= part <= VARIABLES and not isinstance(part, bool):
            found[part] = True
        else:
            return None
    # With few nodes there are not too many levels.
    if nodes > NODES or (nodes > DEPTH and not is_small(value)):
        return None
    return tuple(found)


def count_nodes(shape):
    """Return the number of nodes."""
    if not isinstance(shape, tuple):
        return 1
    return 1 + sum([count_nodes(part) for part in shape[1:]])


def with_variables(shape, table):
    """Return the shape in which each variable in the table is replaced by its shape, at once."""
    if not isinstance(shape, tuple):
        return table[shape] if shape in table else shape
    # Most parts are variables or have no parts: a call for each of them would take longer.
    items = [shape[0]]
    for part in shape[1:]:
        if not isinstance(part, tuple):
            items.append(table[part] if part in table else part)
        elif len(part) > 1:
            items.append(with_variables(part, table))
        else:
            items.append(part)
    return tuple(items)


def put_in(shape, *shapes):
    """Return the shape in which each variable k is replaced by the shape with the index k."""
    result = with_variables(shape, dict(enumerate(shapes)))
    if not is_small(result):
        raise TooLarge(NODES)
    return result


def renamed(shape, variables):
    """Return the shape, whose variables are these in this order, with the variables 0, 1, 2 .. in their places."""
    if variables == tuple(range(len(variables))):
        return shape
    return with_variables(shape, {variable: number for number, variable in enumerate(variables)})


def normal(shape):
    """Return the shape with the variables 0, 1, 2 .. in the order in which they occur first."""
    return renamed(shape, variables_of(shape))


def same_front(one, other):
    """Whether both are tuples with the same Name and the same number of parts."""
    if not isinstance(one, tuple) or not isinstance(other, tuple):
        return False
    return one[0] == other[0] and len(one) == len(other)


def parts_at_variables(general, special):
    """Return the dict of what the variables of general are in special, None if it is no instance.

    special may be any value: what is found there need not be a shape.
    """
    found = {}
    ones = [general]
    others = [special]
    while ones:
        one = ones.pop()
        other = others.pop()
        if isinstance(one, tuple):
            if not isinstance(other, tuple) or len(one) != len(other) or one[0] != other[0]:
                return None
            if len(one) > 1:
                ones.extend(one[1:])
                others.extend(other[1:])
        elif one not in found:
            found[one] = other
        elif found[one] != other:
            return None
    return found


def instance_by(general, special):
    """Return the tuple of what the variables of general are in special, None if it is no instance."""
    found = parts_at_variables(general, special)
    if found is None:
        return None
    return tuple([found[variable] for variable in variables_of(general)])


def is_instance(general, value):
    """Whether any value is a shape that comes from general by replacing variables."""
    # Most shapes are told apart by their first items: those need no look at the whole value.
    return parts_at_variables(general, value) is not None and is_shape(value)


def shape_by(fronts, leaves):
    """Return the shape of its fronts, each behind its parts; None in the place of a front is the next leaf."""
    done = []
    at = 0
    for front in fronts:
        if front is None:
            done.append(leaves[at])
            at += 1
        else:
            name, many = front
            start = len(done) - many
            part = (name, *done[start:])
            del done[start:]
            done.append(part)
    return done[0]


def pattern_of(one, other):
    """Return the common pattern of two shapes in normal form, and the number of its variables."""
    fronts = []
    pairs = []
    ones = [one]
    others = [other]
    # From right to left, and each front ahead of its parts: the other way round it is built.
    while ones:
        left = ones.pop()
        right = others.pop()
        if isinstance(left, tuple) and isinstance(right, tuple) and left[0] == right[0] and len(left) == len(right):
            fronts.append((left[0], len(left) - 1))
            ones.extend(left[1:])
            others.extend(right[1:])
        else:
            fronts.append(None)
            pairs.append((left, right))
    # The same variable stands wherever the same two parts meet.
    different = []
    leaves = []
    for pair in pairs[::-1]:
        if pair not in different:
            different.append(pair)
        leaves.append(different.index(pair))
    return shape_by(fronts[::-1], leaves), len(different)


def common(one, other):
    """Return the common pattern of two shapes in normal form."""
    shape, _ = pattern_of(one, other)
    return shape


def apart(shape):
    """Return the shape with variables that no shape that is passed has."""
    if not isinstance(shape, tuple):
        return shape + APART
    return (shape[0], *[apart(part) if isinstance(part, tuple) else part + APART for part in shape[1:]])


def size_of(shape, sizes, most):
    """Return the nodes and levels of a shape with shapes of these sizes, by variables, in the place of variables.

    If the shape itself has more than the most levels, these are more nodes than it may have.
    """
    if not isinstance(shape, tuple):
        return sizes[shape] if shape in sizes else (1, 1)
    if most == 0:
        return TOO_MANY, 1
    many = 1
    deepest = 0
    for part in shape[1:]:
        if isinstance(part, tuple):
            nodes, levels = size_of(part, sizes, most - 1)
        else:
            nodes, levels = sizes[part] if part in sizes else (1, 1)
        many = many + nodes
        deepest = levels if levels > deepest else deepest
    return many, deepest + 1


def check_size(size):
    """Raise TooLarge if these are too many nodes or levels."""
    if size[0] > NODES or size[1] > DEPTH:
        raise TooLarge(NODES)
    return size


def check_values(values, members, order):
    """Return the dict of the sizes of the shapes of the variables with values; raise TooLarge if one is too large."""
    sizes = {}
    for variable in order:
        size = check_size(size_of(values[variable], sizes, DEPTH))
        sizes[variable] = size
        if variable in members:
            for member in members[variable]:
                sizes[member] = size
    return sizes


def written_values(values, members, order):
    """Return the dict of the shapes of the variables with values or links, none of which is too large."""
    table = dict([(variable, stand) for stand in members for variable in members[stand]])
    for variable in order:
        shape = with_variables(values[variable], table)
        table[variable] = shape
        if variable in members:
            for member in members[variable]:
                table[member] = shape
    return table


def filled(shape, shapes, counts):
    """Return what put_in does with shapes that have these numbers of nodes."""
    # No shape has more levels than nodes: most results need no look of their own.
    nodes, levels = size_of(shape, dict(enumerate([(many, many) for many in counts])), DEPTH)
    result = with_variables(shape, dict(enumerate(shapes))) if nodes <= NODES else None
    if nodes > NODES or (levels > DEPTH and not is_small(result)):
        raise TooLarge(NODES)
    return result


def long_meeting(one, other):
    """Return the meeting of two shapes, whose variables are different, not in normal form, None if there is none."""
    nodes, numbers = numbered((one, other))
    found = solved(nodes, [(numbers[0], numbers[1])])
    if found is None:
        return None
    shape = written(nodes, found, [numbers[0]])[0]
    if not is_small(shape):
        raise TooLarge(NODES)
    return shape


def meeting(one, other):
    """Return the meeting of two shapes in normal form, None if there is none."""
    second = apart(other)
    found = bound([(one, second)])
    if found == LONG:
        shape = long_meeting(one, second)
        return None if shape is None else normal(shape)
    order = None if found is None else order_of(*found)
    if order is None:
        return None
    links, values = found
    members = members_of_links(links)
    check_size(size_of(one, check_values(values, members, order), DEPTH))
    return normal(with_variables(one, written_values(values, members, order)))
