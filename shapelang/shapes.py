"""Shapes: what they are, their variables, their instances and what two of them have in common.

Operators of schemes call these functions, and operators may change nothing: therefore each
function here changes only lists and dicts that it has made itself.
"""

from shapelang.bounds import NODES, VARIABLES
from shapelang.errors import TooLarge
from shapelang.names import is_integer, is_name
from shapelang.sizes import is_small, parts_of_all, small_nodes
from shapelang.unifying import numbered, solved, written

# The most parts that a Name may have behind it.
MOST_PARTS = 3
# Beyond all variables, also those of callers who go somewhat beyond the bound.
APART = 1000000


def is_front(name, many):
    """Whether a shape may begin with this text and have so many items."""
    if name == "->":
        return many == 3
    return many <= MOST_PARTS + 1 and is_name(name)


def are_formed(values):
    """Whether each of these values is a variable, or may be a shape by its own items."""
    tuples = [value for value in values if isinstance(value, tuple)]
    if () in tuples or not all([isinstance(value[0], str) for value in tuples]):
        return False
    if not all([is_integer(value) and 0 <= value <= VARIABLES for value in values if not isinstance(value, tuple)]):
        return False
    # Most tuples begin in the same few ways: each way is looked at once.
    fronts = dict([((value[0], len(value)), True) for value in tuples])
    return all([is_front(name, many) for name, many in fronts])


def is_formed(value):
    """Whether the value is a shape, of whatever size."""
    level = [value]
    while level:
        if not are_formed(level):
            return False
        level = parts_of_all(level)
    return True


def is_shape(value):
    """Whether the value is a shape."""
    nodes = small_nodes(value)
    return nodes is not None and are_formed(nodes)


def variables_of(shape):
    """Return the tuple of the variables in the order in which they occur first."""
    found = {}
    waiting = [shape]
    while waiting:
        part = waiting.pop()
        if isinstance(part, tuple):
            waiting.extend(part[:0:-1])
        else:
            found[part] = True
    return tuple(found)


def count_nodes(shape):
    """Return the number of nodes."""
    if not isinstance(shape, tuple):
        return 1
    return 1 + sum([count_nodes(part) for part in shape[1:]])


def with_variables(shape, table):
    """Return the shape in which each variable in the table is replaced by its shape, at once."""
    if not isinstance(shape, tuple):
        return table[shape] if shape in table else shape
    # Most parts are variables or have no parts: a call for each of them would take longer.
    return (shape[0], *[
        with_variables(part, table) if isinstance(part, tuple) and len(part) > 1 else
        table[part] if part in table else part
        for part in shape[1:]
    ])


def put_in(shape, *shapes):
    """Return the shape in which each variable k is replaced by the shape with the index k."""
    result = with_variables(shape, dict(enumerate(shapes)))
    if not is_small(result):
        raise TooLarge(NODES)
    return result


def renamed(shape, variables):
    """Return the shape, whose variables are these in this order, with the variables 0, 1, 2 .. in their places."""
    if variables == tuple(range(len(variables))):
        return shape
    return with_variables(shape, dict([(variable, number) for number, variable in enumerate(variables)]))


def normal(shape):
    """Return the shape with the variables 0, 1, 2 .. in the order in which they occur first."""
    return renamed(shape, variables_of(shape))


def same_front(one, other):
    """Whether both are tuples with the same Name and the same number of parts."""
    if not isinstance(one, tuple) or not isinstance(other, tuple):
        return False
    return one[0] == other[0] and len(one) == len(other)


def instance_by(general, special):
    """Return the tuple of what the variables of general are in special, None if it is no instance."""
    found = {}
    waiting = [(general, special)]
    while waiting:
        one, other = waiting.pop()
        if isinstance(one, tuple):
            if not same_front(one, other):
                return None
            waiting.extend(list(zip(one[1:], other[1:])))
        elif one not in found:
            found[one] = other
        elif found[one] != other:
            return None
    return tuple([found[variable] for variable in variables_of(general)])


def shape_by(fronts, leaves):
    """Return the shape of its fronts, each behind its parts; None in the place of a front is the next leaf."""
    done = []
    at = 0
    for front in fronts:
        if front is None:
            done.append(leaves[at])
            at += 1
        else:
            name, many = front
            start = len(done) - many
            part = (name, *done[start:])
            del done[start:]
            done.append(part)
    return done[0]


def common(one, other):
    """Return the common pattern of two shapes in normal form."""
    fronts = []
    pairs = []
    waiting = [(one, other)]
    # From right to left, and each front ahead of its parts: the other way round it is built.
    while waiting:
        left, right = waiting.pop()
        if same_front(left, right):
            fronts.append((left[0], len(left) - 1))
            waiting.extend(list(zip(left[1:], right[1:])))
        else:
            fronts.append(None)
            pairs.append((left, right))
    _, numbers = numbered([part for pair in pairs[::-1] for part in pair])
    numbers_of_pairs = list(zip(numbers[::2], numbers[1::2]))
    # The same variable stands wherever the same two parts meet.
    variables = {}
    for pair in numbers_of_pairs:
        variables[pair] = variables[pair] if pair in variables else len(variables)
    return shape_by(fronts[::-1], [variables[pair] for pair in numbers_of_pairs])


def apart(shape):
    """Return the shape with variables that no shape that is passed has."""
    if not isinstance(shape, tuple):
        return shape + APART
    return (shape[0], *[apart(part) if isinstance(part, tuple) else part + APART for part in shape[1:]])


def meeting(one, other):
    """Return the meeting of two shapes in normal form, None if there is none."""
    nodes, numbers = numbered((one, apart(other)))
    found = solved(nodes, [(numbers[0], numbers[1])])
    if found is None:
        return None
    shape = written(nodes, found, [numbers[0]])[0]
    if not is_small(shape):
        raise TooLarge(NODES)
    return normal(shape)
