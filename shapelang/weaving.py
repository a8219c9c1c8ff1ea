"""Shapes of the places of an expression, found by nodes, without writing the groups of equations.

Nodes are as in unifying. Each place has a node; what the groups would say of other variables is
said of nodes at once.
"""

from shapelang.bounds import DEPTH, NODES, VARIABLES
from shapelang.errors import TooLarge
from shapelang.groupings import GIVES
from shapelang.makers import maker_table
from shapelang.unifying import united


class Weaving:
    """The nodes of an expression that fits; places are those of its places, in order.

    many is how many variables the groups would have. A scope has the nodes of the words that are
    bound around a place.
    """

    def __init__(self, datas, known, expression, own):
        self.makers = maker_table(datas)
        self.known = dict(known)
        self.nodes = []
        self.pairs = []
        self.places = []
        self.plain = {}
        self.variables = 0
        self.many = 0
        scope = {}
        if own is not None:
            scope[own] = self.fresh()
        first = self.weave(expression, scope)
        if own is not None:
            self.pairs.append((first, scope[own]))
        if self.many + len(self.places) > VARIABLES + 1:
            raise TooLarge(VARIABLES)

    def fresh(self):
        """Return a new variable's node."""
        self.nodes.append(self.variables)
        self.variables = self.variables + 1
        return len(self.nodes) - 1

    def node(self, items):
        """Return the node of a tuple."""
        self.nodes.append(items)
        return len(self.nodes) - 1

    def named(self, name):
        """Return the node of a shape without parts."""
        if name not in self.plain:
            self.plain[name] = self.node((name,))
        return self.plain[name]

    def put(self, shape, table):
        """Return the node of a shape with nodes in the place of its variables, by a table that gets new ones, too."""
        if not isinstance(shape, tuple):
            if shape not in table:
                table[shape] = self.fresh()
            return table[shape]
        if len(shape) == 1:
            return self.named(shape[0])
        return self.node((shape[0], *[self.put(part, table) for part in shape[1:]]))

    def weave(self, expression, scope):
        """Return the node of an expression in a scope."""
        number = len(self.places)
        self.places.append(None)
        weave_kind = KINDS[expression[0]]
        node = weave_kind(self, expression, scope)
        self.places[number] = node
        return node

    def weave_pattern(self, pattern, words):
        """Return the node of a pattern, and put the nodes of its words into a scope."""
        number = len(self.places)
        self.places.append(None)
        if pattern[0] == "make":
            made, parts = self.make(pattern[1])
            for part, wanted in zip(pattern[2:], parts):
                self.pairs.append((self.weave_pattern(part, words), wanted))
        else:
            made = self.fresh()
            if pattern[0] == "word":
                words[pattern[1]] = made
        self.places[number] = made
        return made

    def make(self, name):
        """Return the node of what a maker makes, and the list of those of its parts."""
        data, many, shapes = self.makers[name]
        self.many = self.many + many
        parameters = [self.fresh() for _ in range(many)]
        made = self.node((data, *parameters)) if many else self.named(data)
        table = dict(enumerate(parameters))
        return made, [self.put(shape, table) for shape in shapes]


def weave_number(weaving, expression, scope):
    """Return the node of a number."""
    return weaving.named("Int")


def weave_hole(weaving, expression, scope):
    """Return the node of a hole."""
    return weaving.fresh()


def weave_word(weaving, expression, scope):
    """Return the node of a word."""
    word = expression[1]
    if word in scope:
        return scope[word]
    table = {}
    node = weaving.put(weaving.known[word], table)
    weaving.many = weaving.many + len(table)
    return node


def weave_op(weaving, expression, scope):
    """Return the node of an op."""
    number = weaving.named("Int")
    for part in expression[2:]:
        weaving.pairs.append((weaving.weave(part, scope), number))
    return weaving.named(GIVES[expression[1]][0])


def weave_make(weaving, expression, scope):
    """Return the node of a make."""
    made, parts = weaving.make(expression[1])
    for part, wanted in zip(expression[2:], parts):
        weaving.pairs.append((weaving.weave(part, scope), wanted))
    return made


def weave_fun(weaving, expression, scope):
    """Return the node of a fun."""
    weaving.many = weaving.many + 1
    argument = weaving.fresh()
    return weaving.node(("->", argument, weaving.weave(expression[2], {**scope, expression[1]: argument})))


def weave_call(weaving, expression, scope):
    """Return the node of a call."""
    function = weaving.weave(expression[1], scope)
    argument = weaving.weave(expression[2], scope)
    result = weaving.fresh()
    weaving.pairs.append((function, weaving.node(("->", argument, result))))
    return result


def weave_let(weaving, expression, scope):
    """Return the node of a let."""
    first = weaving.weave(expression[2], scope)
    return weaving.weave(expression[3], {**scope, expression[1]: first})


def weave_match(weaving, expression, scope):
    """Return the node of a match."""
    matched = weaving.weave(expression[1], scope)
    result = weaving.fresh()
    for pattern, part in expression[2]:
        words = {}
        weaving.pairs.append((weaving.weave_pattern(pattern, words), matched))
        weaving.pairs.append((weaving.weave(part, {**scope, **words}), result))
    return result


KINDS = {
    "number": weave_number,
    "hole": weave_hole,
    "word": weave_word,
    "op": weave_op,
    "make": weave_make,
    "fun": weave_fun,
    "call": weave_call,
    "let": weave_let,
    "match": weave_match,
}


class Woven:
    """What stands at nodes once all pairs are equal.

    shapes have variables from 0 on, in the order in which they occur first in the roots; sizes are
    the pairs of their nodes and levels. Both are by the nodes that stand for others.
    """

    def __init__(self, nodes, stands):
        self.nodes = nodes
        self.stands = stands
        self.shapes = {}
        self.sizes = {}
        self.begun = {}
        self.names = 0

    def find(self, root):
        """Find the shape of a node; return whether no part of it would be within itself."""
        road = [self.stands[root]]
        while road:
            number = road[-1]
            if number in self.shapes:
                road.pop()
            elif number in self.begun:
                self.put(number, [self.stands[part] for part in self.nodes[number][1:]])
                road.pop()
            elif not isinstance(self.nodes[number], tuple):
                self.shapes[number] = self.names
                self.sizes[number] = (1, 1)
                self.names = self.names + 1
                road.pop()
            else:
                self.begun[number] = True
                for part in self.nodes[number][:0:-1]:
                    inner = self.stands[part]
                    if inner not in self.shapes:
                        if inner in self.begun:
                            return False
                        road.append(inner)
        return True

    def put(self, number, parts):
        """Put the shape of a tuple whose parts have shapes."""
        self.shapes[number] = (self.nodes[number][0], *[self.shapes[part] for part in parts])
        nodes = 1
        levels = 0
        for part in parts:
            many, deep = self.sizes[part]
            nodes = nodes + many
            levels = max(levels, deep)
        self.sizes[number] = (nodes, levels + 1)

    def shape_of(self, node):
        """Return the shape of a node that was found."""
        return self.shapes[self.stands[node]]

    def is_small(self, node):
        """Whether the shape of a node is no larger than one that is passed may be."""
        nodes, levels = self.sizes[self.stands[node]]
        return nodes <= NODES and levels <= DEPTH


def woven(weaving, first):
    """Return what is found of an expression, from this place on, None if it is not accepted."""
    leaders = united(weaving.nodes, weaving.pairs)
    if leaders is None:
        return None
    stands = []
    for number in leaders:
        while leaders[number] != number:
            number = leaders[number]
        stands.append(number)
    found = Woven(weaving.nodes, stands)
    for place in [weaving.places[first], *weaving.places]:
        if not found.find(place):
            return None
    return found
