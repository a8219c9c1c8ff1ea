"""Equal shapes found by numbers, without writing shapes out.

Each different shape, and each part of one, is a node and has a number. A node is a variable,
or a tuple of a Name (or "->") and the numbers of its parts, which are less than its own.
Schemes meet by operators, which may change nothing: therefore each function here changes only
lists and dicts that it has made itself.
"""

from shapelang.bounds import DEPTH, NODES


def numbered(shapes):
    """Return the list of nodes of these shapes, and the list of the shapes' own numbers."""
    table = {}
    done = []
    waiting = [(shape, False) for shape in shapes[::-1]]
    while waiting:
        shape, ready = waiting.pop()
        if isinstance(shape, tuple) and not ready:
            waiting.append((shape, True))
            waiting.extend([(part, False) for part in shape[:0:-1]])
            continue
        node = shape
        if ready:
            start = len(done) - len(shape) + 1
            node = (shape[0], *done[start:])
            del done[start:]
        if node not in table:
            table[node] = len(table)
        done.append(table[node])
    return list(table), done


def leader_of(leaders, number):
    """Return the node at the end of the way from this one to its leaders."""
    while leaders[number] != number:
        number = leaders[number]
    return number


def unlike(one, other):
    """Whether two nodes are tuples that cannot be equal by their own items."""
    if not isinstance(one, tuple) or not isinstance(other, tuple):
        return False
    return one[0] != other[0] or len(one) != len(other)


def precedes(one, other):
    """Whether the first node stands for both: a tuple for variables, the least for variables."""
    if isinstance(other, tuple):
        return False
    return isinstance(one, tuple) or one < other


def united(nodes, pairs):
    """Return, for each node, the node that stands for all that equal it if these pairs are equal.

    Return None if unlike tuples had to be equal.
    """
    leaders = list(range(len(nodes)))
    weights = [1 for _ in nodes]
    stands = list(range(len(nodes)))
    waiting = list(pairs)
    while waiting:
        pair = waiting.pop()
        one = leader_of(leaders, pair[0])
        other = leader_of(leaders, pair[1])
        if one == other:
            continue
        # The lighter side goes below the heavier one, so that the ways to the leaders stay short.
        if weights[one] < weights[other]:
            one, other = other, one
        first, second = nodes[stands[one]], nodes[stands[other]]
        if unlike(first, second):
            return None
        if isinstance(first, tuple) and isinstance(second, tuple):
            waiting.extend(list(zip(first[1:], second[1:])))
        if precedes(second, first):
            stands[one] = stands[other]
        leaders[other] = one
        weights[one] = weights[one] + weights[other]
    return [stands[leader_of(leaders, number)] for number in range(len(nodes))]


def parts_at(nodes, stands, number):
    """Return the list of the nodes that stand for the parts of this one."""
    node = nodes[number]
    if not isinstance(node, tuple):
        return []
    return [stands[part] for part in node[1:]]


def peeled(nodes, stands):
    """Return the nodes that stand for some, each ahead of its parts, as far as they are not within themselves."""
    standing = [number for number in range(len(nodes)) if stands[number] == number]
    uses = [0 for _ in nodes]
    for number in standing:
        for part in parts_at(nodes, stands, number):
            uses[part] = uses[part] + 1
    order = []
    waiting = [number for number in standing if uses[number] == 0]
    while waiting:
        number = waiting.pop()
        order.append(number)
        for part in parts_at(nodes, stands, number):
            uses[part] = uses[part] - 1
            if uses[part] == 0:
                waiting.append(part)
    return order


def ordered(nodes, stands):
    """Return the nodes that stand for some, each ahead of its parts.

    Return None if one had to be within itself.
    """
    order = peeled(nodes, stands)
    standing = [number for number in range(len(nodes)) if stands[number] == number]
    return order if len(order) == len(standing) else None


def solved(nodes, pairs):
    """Return (stands, order) as united and ordered give them, None if there is no solution."""
    stands = united(nodes, pairs)
    if stands is None:
        return None
    order = ordered(nodes, stands)
    return None if order is None else (stands, order)


def written(nodes, stands, order):
    """Return the list of the shapes of the nodes that stand for some.

    None is in the place of a shape that is too large, and of a node that stands for none.
    """
    counts = [0 for _ in nodes]
    levels = [0 for _ in nodes]
    shapes = [None for _ in nodes]
    for number in order[::-1]:
        parts = parts_at(nodes, stands, number)
        # Counts may be as great as 2 ** 50 and more: what lies beyond the bound is all the same.
        counts[number] = min(1 + sum([counts[part] for part in parts]), NODES + 1)
        levels[number] = 1 + max([levels[part] for part in parts], default=0)
        node = nodes[number]
        if not isinstance(node, tuple):
            shapes[number] = node
        elif counts[number] <= NODES and levels[number] <= DEPTH:
            shapes[number] = (node[0], *[shapes[part] for part in parts])
    return shapes
