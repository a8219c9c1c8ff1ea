"""Groups of equations between shapes, and their solutions."""

from shapelang.binding import LONG, bound, deep_variables, members_of_links, order_of
from shapelang.bounds import NODES
from shapelang.errors import NoSolution, TooLarge
from shapelang.names import is_integer
from shapelang.shapes import check_values, is_formed, written_values
from shapelang.sizes import is_small
from shapelang.unifying import numbered, solved, written


def numbered_groups(groups):
    """Return the list of the nodes of the groups, and for each group the list of its pairs of nodes."""
    equations = [equation for group in groups for equation in group]
    nodes, numbers = numbered([side for equation in equations for side in equation])
    pairs = []
    start = 0
    for group in groups:
        end = start + 2 * len(group)
        pairs.append(list(zip(numbers[start:end:2], numbers[start + 1:end:2])))
        start = end
    return nodes, pairs


def all_pairs(pairs):
    """Return the list of the pairs of all groups."""
    return [pair for group in pairs for pair in group]


def variable_numbers(nodes):
    """Return the dict of the numbers of the nodes that are variables, by variables."""
    return dict([(node, number) for number, node in enumerate(nodes) if not isinstance(node, tuple)])


def has_solution(groups):
    """Return whether all groups together have a solution."""
    found = bound([equation for group in groups for equation in group])
    if found == LONG:
        nodes, pairs = numbered_groups(groups)
        return solved(nodes, all_pairs(pairs)) is not None
    return found is not None and order_of(*found) is not None


def long_solution(groups):
    """Return what solve does, by numbers of nodes."""
    nodes, pairs = numbered_groups(groups)
    found = solved(nodes, all_pairs(pairs))
    if found is None:
        raise NoSolution()
    numbers = variable_numbers(nodes)
    variables = sorted(numbers)
    shapes = written(nodes, found, [numbers[variable] for variable in variables])
    for shape in shapes:
        if not is_small(shape):
            raise TooLarge(NODES)
    return tuple(list(zip(variables, shapes)))


def solve(groups):
    """Return the plain solution of all groups together."""
    equations = [equation for group in groups for equation in group]
    found = bound(equations)
    if found == LONG:
        return long_solution(groups)
    order = None if found is None else order_of(*found)
    if order is None:
        raise NoSolution()
    links, values = found
    members = members_of_links(links)
    check_values(values, members, order)
    table = written_values(values, members, order)
    variables = sorted(set(deep_variables([side for equation in equations for side in equation])))
    return tuple([(variable, table[variable] if variable in table else variable) for variable in variables])


def is_assignment(value, variables):
    """Whether the value is a tuple of pairs of just these variables, in this order, and shapes."""
    if not isinstance(value, tuple) or len(value) != len(variables):
        return False
    for pair, variable in zip(value, variables):
        if not isinstance(pair, tuple) or len(pair) != 2 or not is_integer(pair[0]):
            return False
        if pair[0] != variable or not is_formed(pair[1]):
            return False
    return True


def solution_holds(groups, value):
    """Return whether the value is a solution of all groups together."""
    nodes, pairs = numbered_groups(groups)
    if not is_assignment(value, sorted(variable_numbers(nodes))):
        return False
    known, numbers = numbered([shape for _, shape in value])
    replaced = replaced_nodes(nodes, known, dict(zip([variable for variable, _ in value], numbers)))
    return all([replaced[one] == replaced[other] for one, other in all_pairs(pairs)])


def replaced_nodes(nodes, known, numbers):
    """Return, for each node, the number of what it is when its variables are replaced.

    known are the nodes of the shapes that replace them, numbers the numbers of these shapes by
    variables. Equal numbers are equal shapes, which may be too large to be written out.
    """
    table = dict([(node, number) for number, node in enumerate(known)])
    replaced = []
    for node in nodes:
        if isinstance(node, tuple):
            key = (node[0], *[replaced[part] for part in node[1:]])
            replaced.append(table.setdefault(key, len(table)))
        else:
            replaced.append(numbers[node])
    return replaced
