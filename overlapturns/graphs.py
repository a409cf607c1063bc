"""Graphs: dicts of lists, each node with those that it leads to."""


class Search:
    """The search for the knots of a graph: the greatest sets of nodes that all lead to one another."""

    def __init__(self, graph):
        self.graph = graph
        self.order = {}
        self.low = {}
        self.closed = {}
        self.waiting = []
        self.knots = []

    def go_from(self, first):
        """Find the knots of all that a node leads to."""
        trail = [(first, 0)]
        while trail:
            node, at = trail.pop()
            if node not in self.order:
                self.order[node] = len(self.order)
                self.low[node] = self.order[node]
                self.waiting.append(node)
            new = self._new_ahead(node, at)
            if new is None:
                self._close(node)
            else:
                trail.append((node, new))
                trail.append((self.graph[node][new], 0))

    def _new_ahead(self, node, at):
        """Return at which index behind this one a node leads to a new one, None if it does not."""
        ahead = self.graph[node]
        while at < len(ahead):
            other = ahead[at]
            if other not in self.order:
                return at
            if other not in self.closed:
                self.low[node] = min(self.low[node], self.low[other])
            at += 1
        return None

    def _close(self, node):
        if self.low[node] != self.order[node]:
            return
        knot = []
        while node not in self.closed:
            other = self.waiting.pop()
            self.closed[other] = True
            knot.append(other)
        self.knots.append(knot)


def knots_of(graph):
    """Return the list of the knots of a graph, each behind all those that it leads to."""
    search = Search(graph)
    for node in graph:
        if node not in search.order:
            search.go_from(node)
    return search.knots


def is_round(graph, knot):
    """Tell whether the nodes of a knot lead back to themselves."""
    return len(knot) > 1 or knot[0] in graph[knot[0]]


def totals_from(home, ways):
    """Return for each node how far it is from home, by one of the ways.

    Ways are lists of pairs for each node: a node, and a row of numbers that are added up.
    """
    totals = {home: None}
    waiting = [home]
    while waiting:
        node = waiting.pop()
        for other, numbers in ways[node]:
            if other not in totals:
                totals[other] = added(totals[node], numbers)
                waiting.append(other)
    return totals


def added(one, other):
    """Return the row of the sums of two rows; None stands for a row of zeros."""
    if one is None:
        return other
    if other is None:
        return one
    return tuple([left + right for left, right in zip(one, other)])
