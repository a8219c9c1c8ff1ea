"""Rings: variables that would have to be within themselves."""


def insides(nodes, stands):
    """Return, for each node that stands for some, the list of what stands for its parts, () for the others."""
    return [
        [stands[part] for part in node[1:]] if isinstance(node, tuple) and stands[number] == number else ()
        for number, node in enumerate(nodes)
    ]


def peeled(stands, inside):
    """Return the nodes that stand for some, each ahead of its parts, as far as they are not within themselves."""
    standing = [number for number, stand in enumerate(stands) if stand == number]
    uses = [0 for _ in stands]
    for number in standing:
        for part in inside[number]:
            uses[part] += 1
    order = []
    waiting = [number for number in standing if uses[number] == 0]
    while waiting:
        number = waiting.pop()
        order.append(number)
        for part in inside[number]:
            uses[part] -= 1
            if uses[part] == 0:
                waiting.append(part)
    return order


def users_left(stands, inside):
    """Return a dict of the nodes that are not peeled, each with one of them that uses it."""
    done = [False for _ in stands]
    for number in peeled(stands, inside):
        done[number] = True
    users = {}
    for number, stand in enumerate(stands):
        if stand == number and not done[number]:
            for part in inside[number]:
                users[part] = number
    return users


def cycle_of(stands, inside):
    """Return a list of nodes that stand for some, each with the next one, and the last with the first, as a part."""
    users = users_left(stands, inside)
    number = list(users)[0]
    met = {}
    while number not in met:
        met[number] = len(met)
        number = users[number]
    return list(met)[met[number]:][::-1]


def indexes_of(inside, cycle):
    """Return, for each node of a cycle, the index of its part that the next one stands for."""
    following = [*cycle[1:], cycle[0]]
    return [inside[number].index(part) for number, part in zip(cycle, following)]


def ring_of(nodes, stands):
    """Return a list of pairs (variable, tuple) of equal nodes, with each next variable within the tuple.

    The way goes round the cycle, and from part to part. Where it comes to a variable it goes on
    in the tuple that stands for it, until it comes to a variable at the same node a second time.
    """
    inside = insides(nodes, stands)
    cycle = cycle_of(stands, inside)
    indexes = indexes_of(inside, cycle)
    ring = []
    starts = {}
    number = cycle[0]
    at = 0
    while True:
        if not isinstance(nodes[number], tuple):
            if at in starts:
                return [(number, cycle[at]), *ring[starts[at] + 1:]]
            starts[at] = len(ring)
            ring.append((number, cycle[at]))
            number = cycle[at]
        number = nodes[number][1 + indexes[at]]
        at = (at + 1) % len(cycle)
