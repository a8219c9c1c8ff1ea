"""Equal shapes found by numbers, without writing shapes out.

Each different shape, and each part of one, is a node and has a number. A node is a variable,
or a tuple of a Name (or "->") and the numbers of its parts, which are less than its own.
What is found of some equations is a pair (stands, order): for each variable, by the number of
its node, the node that stands for all that equal it; and the tuples that stand for variables,
each behind those that stand for variables within it.
Schemes meet by operators, which may change nothing: therefore each function here changes only
lists and dicts that it has made itself. Groups may have many thousand nodes: therefore some
loops are written out that could be calls.
"""

from shapelang.bounds import DEPTH


def numbered(shapes):
    """Return the list of nodes of these shapes, and the list of the shapes' own numbers."""
    levels = []
    level = list(shapes)
    while level:
        levels.append(level)
        level = [part for shape in level if isinstance(shape, tuple) for part in shape[1:]]
    table = {}
    below = []
    for shapes_of_level in levels[::-1]:
        numbers = []
        # The numbers of the parts of this level stand below in the same order.
        start = 0
        for node in shapes_of_level:
            if isinstance(node, tuple):
                many = len(node)
                if many == 2:
                    node = (node[0], below[start])
                elif many > 2:
                    node = (node[0], *below[start:start + many - 1])
                start = start + many - 1
            numbers.append(table.setdefault(node, len(table)))
        below = numbers
    return list(table), below


def united_in_turn(nodes, groups):
    """Make the pairs of groups equal, one group after another, as long as no unlike tuples had to be equal.

    Return, for each node, a node that equals it, and so on up to a last one, and the number of
    the groups that were done. The last one is a tuple if there is one, otherwise the least variable.
    """
    leaders = list(range(len(nodes)))
    for done, pairs in enumerate(groups):
        waiting = list(pairs)
        while waiting:
            one, other = waiting.pop()
            # Each step makes the way to the leader shorter for the next time.
            while leaders[one] != one:
                leaders[one] = leaders[leaders[one]]
                one = leaders[one]
            while leaders[other] != other:
                leaders[other] = leaders[leaders[other]]
                other = leaders[other]
            if one == other:
                continue
            first, second = nodes[one], nodes[other]
            if isinstance(first, tuple) and isinstance(second, tuple):
                if first[0] != second[0] or len(first) != len(second):
                    return leaders, done
                waiting.extend(list(zip(first[1:], second[1:])))
            elif isinstance(second, tuple) or (not isinstance(first, tuple) and second < first):
                one, other = other, one
            leaders[other] = one
    return leaders, len(groups)


def united(nodes, pairs):
    """Return the leaders of united_in_turn for one group of pairs, None if unlike tuples had to be equal."""
    leaders, done = united_in_turn(nodes, [pairs])
    return leaders if done == 1 else None


def variable_masks(nodes):
    """Return the list of, for each node, the mask of the variables in it; each variable has a bit of its own."""
    masks = []
    bit = 1
    for node in nodes:
        if not isinstance(node, tuple):
            masks.append(bit)
            bit = bit + bit
        elif len(node) == 2:
            masks.append(masks[node[1]])
        else:
            mask = 0
            for part in node[1:]:
                mask = mask | masks[part]
            masks.append(mask)
    return masks


def ordered(nodes, masks, stands):
    """Return the tuples that stand for variables, each behind those that stand for variables within it.

    Return None if one had to be within itself: then the way from a tuple to a variable in it, to
    the tuple that stands for this, and so on, leads back.
    """
    owners = {}
    members = {}
    left = 0
    for number in stands:
        stand = stands[number]
        if isinstance(nodes[stand], tuple):
            owners[masks[number]] = stand
            members[stand] = masks[number] | (members[stand] if stand in members else 0)
            left = left | masks[number]
    order = []
    begun = {}
    for start in members:
        if start in begun:
            continue
        begun[start] = True
        road = [start]
        while road:
            within = masks[road[-1]] & left
            if within == 0:
                left = left & ~members[road[-1]]
                order.append(road.pop())
                continue
            following = owners[within & -within]
            if following in begun:
                return None
            begun[following] = True
            road.append(following)
    return order


def variable_nodes(nodes):
    """Return the list of the numbers of the nodes that are variables."""
    return [number for number, node in enumerate(nodes) if not isinstance(node, tuple)]


def order_by(nodes, variables, masks, leaders):
    """Return what is found of nodes with these leaders, None if a tuple had to be within itself."""
    stands = {}
    for number in variables:
        stand = number
        while leaders[stand] != stand:
            stand = leaders[stand]
        stands[number] = stand
    order = ordered(nodes, masks, stands)
    return None if order is None else (stands, order)


def solved_by(nodes, variables, masks, pairs):
    """Return what is found of the equations of these pairs, None if they have no solution.

    variables and masks are those of variable_nodes and variable_masks, for callers who ask about
    the same nodes many times.
    """
    leaders = united(nodes, pairs)
    return None if leaders is None else order_by(nodes, variables, masks, leaders)


def solved(nodes, pairs):
    """Return what is found of the equations of these pairs, None if they have no solution."""
    return solved_by(nodes, variable_nodes(nodes), variable_masks(nodes), pairs)


def shape_at(nodes, values, number, levels):
    """Return the shape of a node with these values, by the numbers of their nodes, in the place of variables.

    Below so many levels, which are more than a shape may have, anything is as good.
    """
    node = nodes[number]
    if not isinstance(node, tuple):
        return values[number]
    if levels == 0:
        return 0
    return (node[0], *[shape_at(nodes, values, part, levels - 1) for part in node[1:]])


def written(nodes, found, numbers):
    """Return the list of the shapes of the nodes with these numbers; the caller looks whether they are too large.

    A shape may have 2 ** 50 nodes, but what is put into it is the same tuple wherever it is put.
    """
    stands, order = found
    values = dict([(number, nodes[stands[number]]) for number in stands])
    members = {}
    for number in stands:
        stand = stands[number]
        members[stand] = [*members[stand], number] if stand in members else [number]
    for stand in order:
        shape = shape_at(nodes, values, stand, DEPTH)
        for number in members[stand]:
            values[number] = shape
    return [shape_at(nodes, values, number, DEPTH) for number in numbers]
