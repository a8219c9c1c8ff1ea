"""Shapes: what they are, their variables, their instances and what two of them have in common.

Operators of schemes call these functions, and operators may change nothing: therefore each
function here changes only lists and dicts that it has made itself.
"""

from shapelang.bounds import DEPTH, NODES, VARIABLES
from shapelang.errors import TooLarge
from shapelang.names import is_integer, is_name
from shapelang.unifying import numbered, solved, written

# The most parts that a Name may have behind it.
MOST_PARTS = 3


def is_small(shape):
    """Whether a shape has no more nodes and levels than a shape that is passed may have."""
    nodes = 0
    waiting = [(shape, 1)]
    while waiting:
        part, level = waiting.pop()
        nodes += 1
        if nodes > NODES or level > DEPTH:
            return False
        if isinstance(part, tuple):
            waiting.extend([(inner, level + 1) for inner in part[1:]])
    return True


def is_node(value):
    """Whether the value is a variable, or a tuple that may be a shape by its own items."""
    if not isinstance(value, tuple):
        return is_integer(value) and 0 <= value <= VARIABLES
    if len(value) == 0:
        return False
    if value[0] == "->":
        return len(value) == 3
    return is_name(value[0]) and len(value) <= MOST_PARTS + 1


def is_formed(value):
    """Whether the value is a shape, of whatever size."""
    waiting = [value]
    while waiting:
        part = waiting.pop()
        if not is_node(part):
            return False
        if isinstance(part, tuple):
            waiting.extend(part[1:])
    return True


def is_shape(value):
    """Whether the value is a shape."""
    return is_small(value) and is_formed(value)


def variables_of(shape):
    """Return the tuple of the variables in the order in which they occur first."""
    found = {}
    waiting = [shape]
    while waiting:
        part = waiting.pop()
        if isinstance(part, tuple):
            waiting.extend(part[:0:-1])
        else:
            found[part] = True
    return tuple(found)


def count_nodes(shape):
    """Return the number of nodes."""
    if not isinstance(shape, tuple):
        return 1
    return 1 + sum([count_nodes(part) for part in shape[1:]])


def with_variables(shape, table):
    """Return the shape in which each variable in the table is replaced by its shape, at once."""
    if not isinstance(shape, tuple):
        return table[shape] if shape in table else shape
    return (shape[0], *[with_variables(part, table) for part in shape[1:]])


def put_in(shape, *shapes):
    """Return the shape in which each variable k is replaced by the shape with the index k."""
    result = with_variables(shape, dict(enumerate(shapes)))
    if not is_small(result):
        raise TooLarge(NODES)
    return result


def normal(shape):
    """Return the shape with the variables 0, 1, 2 .. in the order in which they occur first."""
    names = [(variable, number) for number, variable in enumerate(variables_of(shape))]
    return with_variables(shape, dict(names))


def same_front(one, other):
    """Whether both are tuples with the same Name and the same number of parts."""
    if not isinstance(one, tuple) or not isinstance(other, tuple):
        return False
    return one[0] == other[0] and len(one) == len(other)


def instance_by(general, special):
    """Return the tuple of what the variables of general are in special, None if it is no instance."""
    found = {}
    waiting = [(general, special)]
    while waiting:
        one, other = waiting.pop()
        if same_front(one, other):
            waiting.extend(list(zip(one[1:], other[1:])))
        elif isinstance(one, tuple):
            return None
        elif one not in found:
            found[one] = other
        elif found[one] != other:
            return None
    return tuple([found[variable] for variable in variables_of(general)])


def common(one, other):
    """Return the common pattern of two shapes in normal form."""
    nodes, numbers = numbered((one, other))
    # The variables of the pattern by the pairs of parts, by their numbers, that they stand for.
    found = {}
    done = []
    waiting = [(numbers[0], numbers[1])]
    while waiting:
        left, right = waiting.pop()
        # A Name and a number of parts: these parts are done.
        if isinstance(left, str):
            start = len(done) - right
            part = (left, *done[start:])
            del done[start:]
            done.append(part)
            continue
        first, second = nodes[left], nodes[right]
        if same_front(first, second):
            waiting.append((first[0], len(first) - 1))
            waiting.extend(list(zip(first[:0:-1], second[:0:-1])))
            continue
        if (left, right) not in found:
            found[(left, right)] = len(found)
        done.append(found[(left, right)])
    return done[0]


def apart(shape, other):
    """Return the shape with variables that the other one does not have."""
    first = 1 + max(variables_of(other), default=0)
    return with_variables(shape, dict([(variable, first + variable) for variable in variables_of(shape)]))


def meeting(one, other):
    """Return the meeting of two shapes in normal form, None if there is none."""
    nodes, numbers = numbered((one, apart(other, one)))
    found = solved(nodes, [(numbers[0], numbers[1])])
    if found is None:
        return None
    stands, order = found
    shape = written(nodes, stands, order)[stands[numbers[0]]]
    if shape is None:
        raise TooLarge(NODES)
    return normal(shape)
