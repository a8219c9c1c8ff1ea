"""Rings: variables that would have to be within themselves."""

from shapelang.unifying import parts_at, peeled


def users_left(nodes, stands):
    """Return a dict of the nodes that are not peeled, each with one of them that uses it."""
    done = [False for _ in nodes]
    for number in peeled(nodes, stands):
        done[number] = True
    users = {}
    for number in range(len(nodes)):
        if stands[number] == number and not done[number]:
            for part in parts_at(nodes, stands, number):
                users[part] = number
    return users


def cycle_of(nodes, stands):
    """Return a list of nodes that stand for some, each with the next one, and the last with the first, as a part."""
    users = users_left(nodes, stands)
    number = list(users)[0]
    met = {}
    while number not in met:
        met[number] = len(met)
        number = users[number]
    return list(met)[met[number]:][::-1]


def indexes_of(nodes, stands, cycle):
    """Return, for each node of a cycle, the index of its part that the next one stands for."""
    following = [*cycle[1:], cycle[0]]
    return [parts_at(nodes, stands, number).index(part) for number, part in zip(cycle, following)]


def ring_of(nodes, stands):
    """Return a list of pairs (variable, tuple) of equal nodes, with each next variable within the tuple.

    The way goes round the cycle, and from part to part. Where it comes to a variable it goes on
    in the tuple that stands for it, until it comes to a variable at the same node a second time.
    """
    cycle = cycle_of(nodes, stands)
    indexes = indexes_of(nodes, stands, cycle)
    ring = []
    starts = {}
    number = cycle[0]
    at = 0
    while True:
        if not isinstance(nodes[number], tuple):
            if at in starts:
                return [(number, cycle[at]), *ring[starts[at] + 1:]]
            starts[at] = len(ring)
            ring.append((number, cycle[at]))
            number = cycle[at]
        number = nodes[number][1 + indexes[at]]
        at = (at + 1) % len(cycle)
