"""Equal nodes with chains that show why they are equal.

A row is named by its number. None in the place of a row stands for the equation of a node with
itself, which needs no row.
"""


def unlike(one, other):
    """Whether two nodes are tuples that cannot be equal by their own items."""
    if not isinstance(one, tuple) or not isinstance(other, tuple):
        return False
    return one[0] != other[0] or len(one) != len(other)


def precedes(one, other):
    """Whether the first node stands for both: a tuple for variables, the least for variables."""
    if isinstance(other, tuple):
        return False
    return isinstance(one, tuple) or one < other


class Proof:
    """Nodes that are made equal one after another, and the rows that show it."""

    def __init__(self, nodes):
        self.nodes = nodes
        self.rows = []
        self.leaders = list(range(len(nodes)))
        self.weights = [1 for _ in nodes]
        # The rows that show (node, its leader), and (leader, the node that stands for all).
        self.upward = [None for _ in nodes]
        self.stands = list(range(len(nodes)))
        self.onward = [None for _ in nodes]

    def add(self, row):
        """Add a row and return its number."""
        self.rows.append(row)
        return len(self.rows) - 1

    def turned(self, row):
        """Return the row that shows the equation of this one with its sides exchanged."""
        if row is None:
            return None
        if self.rows[row][0] == "turned":
            return self.rows[row][1]
        return self.add(("turned", row))

    def joined(self, row, other):
        """Return the row that shows what both show together."""
        if row is None or other is None:
            return other if row is None else row
        return self.add(("joined", row, other))

    def climb(self, node):
        """Return the leader of a node and the row that shows (node, leader)."""
        way = []
        while self.leaders[node] != node:
            way.append(node)
            node = self.leaders[node]
        row = None
        # Each node on the way gets a row of its own to the leader, which later climbs use.
        for one in way[::-1]:
            row = self.joined(self.upward[one], row)
            self.upward[one] = row
            self.leaders[one] = node
        return node, row

    def stand(self, node):
        """Return the node that stands for this one, and the row that shows (node, that one)."""
        leader, row = self.climb(node)
        return self.stands[leader], self.joined(row, self.onward[leader])

    def united(self, one, other, row):
        """Make two nodes equal by the row that shows it.

        Return a tuple of the two tuples that are equal, too, and the row that shows it, None if
        there are none.
        """
        first, left = self.climb(one)
        second, right = self.climb(other)
        if first == second:
            return None
        link = self.joined(self.joined(self.turned(left), self.add(row)), right)
        front, back = self.nodes[self.stands[first]], self.nodes[self.stands[second]]
        between = None
        if isinstance(front, tuple) and isinstance(back, tuple):
            start = self.joined(self.turned(self.onward[first]), link)
            between = (front, back, self.joined(start, self.onward[second]))
        if self.weights[first] < self.weights[second]:
            self.put_below(second, first, self.turned(link))
        else:
            self.put_below(first, second, link)
        return between

    def put_below(self, upper, lower, link):
        """Make one leader the leader of another one, by the row that shows (upper, lower)."""
        if precedes(self.nodes[self.stands[lower]], self.nodes[self.stands[upper]]):
            self.stands[upper] = self.stands[lower]
            self.onward[upper] = self.joined(link, self.onward[lower])
        self.leaders[lower] = upper
        self.upward[lower] = self.turned(link)
        self.weights[upper] = self.weights[upper] + self.weights[lower]

    def unite_all(self, pairs):
        """Make pairs equal, each (node, node, row), and all that follows from them.

        Return the row that shows an equation of unlike tuples, None if there is none.
        """
        waiting = pairs[::-1]
        while waiting:
            one, other, row = waiting.pop()
            between = self.united(one, other, row)
            if between is None:
                continue
            front, back, shown = between
            if unlike(front, back):
                return shown
            parts = list(zip(front[1:], back[1:]))
            waiting.extend([(*pair, ("part", shown, index)) for index, pair in enumerate(parts)])
        return None


def kept_rows(rows, roots):
    """Return the tuple of the rows that the roots need, and the list of the new numbers of the roots."""
    needed = [False for _ in rows]
    for root in roots:
        needed[root] = True
    for number in range(len(rows) - 1, -1, -1):
        if needed[number]:
            for earlier in rows_used(rows[number]):
                needed[earlier] = True
    kept = [number for number in range(len(rows)) if needed[number]]
    numbers = dict([(number, new) for new, number in enumerate(kept)])
    return tuple([renumbered(rows[number], numbers) for number in kept]), [numbers[root] for root in roots]


def rows_used(row):
    """Return the tuple of the numbers of the rows that this one uses."""
    if row[0] == "given":
        return ()
    return row[1:] if row[0] == "joined" else (row[1],)


def renumbered(row, numbers):
    """Return the row with the new numbers of the rows that it uses."""
    used = rows_used(row)
    return (row[0], *[numbers[number] for number in used], *row[1 + len(used):])
