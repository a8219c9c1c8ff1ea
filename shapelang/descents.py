"""Descents and loops of plain definitions."""

from shapelang.books import check_index
from shapelang.errors import NotPlain
from shapelang.names import is_integer
from shapelang.plain import Body, first_not_plain, reached


def checked_graphs(book, index):
    """Return the list of the graphs of a definition; raise the errors of calls_of."""
    check_index(book, index)
    fault = first_not_plain(book, index)
    if fault is not None:
        raise NotPlain(fault)
    return Body(book, index).graphs()


def calls_of(book, index):
    """Return the tuple of the graphs of the calls of a definition by itself."""
    return tuple(checked_graphs(book, index))


def joined_item(one, item):
    """Return the item of the joined graph for an item of the second graph."""
    if item == () or one[item[0]] == ():
        return ()
    parameter, label = one[item[0]]
    return (parameter, "same" if label == "same" and item[1] == "same" else "less")


def joined(one, other):
    """Return the joined graph of two graphs."""
    return tuple([joined_item(one, item) for item in other])


def is_steady(graph):
    """Whether the graph joined with itself is itself."""
    return joined(graph, graph) == graph


def falls(graph):
    """Whether an item of the graph is less than itself."""
    return any([item == (place, "less") for place, item in enumerate(graph)])


def is_endless(graph):
    """Whether the graph is steady and does not fall."""
    return is_steady(graph) and not falls(graph)


def loops_to(graphs):
    """Return the dict of all graphs that these give, joined one behind another, with the indexes of those joined."""
    found = {}
    for index, graph in enumerate(graphs):
        if graph not in found:
            found[graph] = (index,)
    waiting = list(found)
    while waiting:
        graph = waiting.pop()
        for index, other in enumerate(graphs):
            longer = joined(graph, other)
            if longer not in found:
                found[longer] = (*found[graph], index)
                waiting.append(longer)
    return found


def verdict_of(graphs):
    """Return ("descent", descent) with the descent of the fewest graphs, or ("loop", loop)."""
    found = loops_to(graphs)
    for graph in found:
        if is_endless(graph):
            return ("loop", found[graph])
    return ("descent", tuple(sorted(found)))


def find_descent(book, index):
    """Return the descent of the fewest graphs of a definition, or a loop of it."""
    return verdict_of(checked_graphs(book, index))


def is_item(value, many):
    """Whether the value is an item of a graph with so many items."""
    if value == ():
        return True
    if not isinstance(value, tuple) or len(value) != 2 or not is_integer(value[0]):
        return False
    return 0 <= value[0] < many and value[1] in ("same", "less")


def is_graph(value, many):
    """Whether the value is a graph with so many items."""
    return isinstance(value, tuple) and len(value) == many and all([is_item(item, many) for item in value])


def is_descent(graphs, many, value):
    """Whether the value is a descent of these graphs, which have so many items."""
    if not isinstance(value, tuple) or not all([is_graph(graph, many) for graph in value]):
        return False
    if any([one >= other for one, other in zip(value, value[1:])]):
        return False
    inside = dict([(graph, True) for graph in value])
    if not all([graph in inside for graph in graphs]) or any([is_endless(graph) for graph in value]):
        return False
    return all([joined(one, other) in inside for one in value for other in value])


def is_loop(graphs, value):
    """Whether the value is a loop of these graphs."""
    if not isinstance(value, tuple) or len(value) == 0:
        return False
    if not all([is_integer(index) and 0 <= index < len(graphs) for index in value]):
        return False
    whole = graphs[value[0]]
    for index in value[1:]:
        whole = joined(whole, graphs[index])
    return is_endless(whole)


def descent_holds(book, index, value):
    """Return whether the value is ("descent", descent) or ("loop", loop) of a definition."""
    graphs = checked_graphs(book, index)
    if not isinstance(value, tuple) or len(value) != 2:
        return False
    if value[0] == "descent":
        return is_descent(graphs, Body(book, index).many, value[1])
    return value[0] == "loop" and is_loop(graphs, value[1])


def ends(book, index):
    """Return whether a definition ends."""
    checked_graphs(book, index)
    return all([verdict_of(Body(book, at).graphs())[0] == "descent" for at in reached(book, index)])
