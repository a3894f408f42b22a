"""Flows in a net of bounds: what shows that a sum of the nodes' numbers, each with a weight, is as great as can be."""

from blindweirs.ways import least_to


class Flow:
    """What is sent along the pairs of a net, as cheap as can be, so that each node sends out its weight."""

    def __init__(self, bounds, weights):
        self.limits = bounds
        self.heights = least_to(bounds, 0)
        self.sent = {}
        self.left = {node: weights.get(node, 0) for node in self.heights}
        self.left[0] = -sum(list(weights.values()))
        self.beside = {node: [] for node in self.heights}
        for x, y in bounds:
            self.beside[x].append(y)
            if (y, x) not in bounds:
                self.beside[y].append(x)

    def slack(self, x, y):
        """How far the heights are from the bound of a pair, 0 where something can be sent back; None for no way."""
        if self.sent.get((y, x), 0) > 0:
            return 0
        if (x, y) in self.limits:
            return self.limits[(x, y)] - self.heights[x] + self.heights[y]
        return None

    def send_from(self, source):
        """Send all that is left at a node to nodes that lack something, the nearest one first."""
        while self.left[source] > 0:
            far, ahead, goal = self.nearest(source)
            for node in far:
                self.heights[node] += far[goal] - far[node]
            self.send(way_back(ahead, source, goal))

    def nearest(self, source):
        """The distances up to the nearest node that lacks something, the steps to them, and this node."""
        far = {}
        ahead = {source: source}
        # Of ways with the same slack that of fewer steps comes first, so that what is sent does not go to and fro.
        reached = {source: (0, 0)}
        while True:
            node = min(list(reached), key=lambda found: reached[found])
            distance, steps = reached.pop(node)
            far[node] = distance
            if self.left[node] < 0:
                return (far, ahead, node)
            for further in self.beside[node]:
                slack = self.slack(node, further)
                if further not in far and slack is not None:
                    told = (distance + slack, steps + 1)
                    if further not in reached or told < reached[further]:
                        reached[further] = told
                        ahead[further] = node

    def send(self, way):
        """Send as much along a way as its ends and what is taken back on it allow."""
        amount = min(self.left[way[0]], -self.left[way[-1]])
        steps = list(zip(way, way[1:]))
        for x, y in steps:
            if self.sent.get((y, x), 0) > 0:
                amount = min(amount, self.sent[(y, x)])
        for x, y in steps:
            if self.sent.get((y, x), 0) > 0:
                self.sent[(y, x)] -= amount
            else:
                self.sent[(x, y)] = self.sent.get((x, y), 0) + amount
        self.left[way[0]] -= amount
        self.left[way[-1]] += amount


def way_back(ahead, source, goal):
    """The nodes from a source to a goal."""
    way = [goal]
    while way[-1] != source:
        way.append(ahead[way[-1]])
    return way[::-1]


def cheapest_flow(bounds, weights):
    """The dict from pairs to what is sent, more than 0, with the least sum of bounds times what is sent.

    No ring of the bounds loses, and from each node a way leads to node 0 and back.
    """
    flow = Flow(bounds, weights)
    for node in list(flow.left):
        flow.send_from(node)
    return {pair: flow.sent[pair] for pair in bounds if flow.sent.get(pair, 0) > 0}


def highest_of_best(bounds, sent):
    """The greatest sums at the nodes of all that are worth as much as a cheapest flow shows."""
    tight = {pair: bounds[pair] for pair in bounds}
    for x, y in sent:
        # Where something is sent the bound is met by all that are worth most.
        tight[(y, x)] = min(-bounds[(x, y)], tight.get((y, x), -bounds[(x, y)]))
    return least_to(tight, 0)
