"""Ways and rings of bounds, told as dicts from pairs (x, y) of nodes to what the sum at x less that at y is at most."""


def least_to(bounds, goal):
    """For each node from which a way leads to a goal the least sum of bounds along one; no ring may lose."""
    least = {goal: 0}
    changed = True
    while changed:
        changed = False
        for x, y in bounds:
            if y in least and (x not in least or bounds[(x, y)] + least[y] < least[x]):
                least[x] = bounds[(x, y)] + least[y]
                changed = True
    return least


def losing_ring(bounds):
    """A ring of nodes whose bounds sum to less than 0; None if there is none."""
    reached = {node: 0 for pair in bounds for node in pair}
    ahead = {}
    while True:
        changed = None
        for x, y in bounds:
            if reached[x] + bounds[(x, y)] < reached[y]:
                reached[y] = reached[x] + bounds[(x, y)]
                ahead[y] = x
                changed = y
        # Without a ring no way has more steps than there are nodes, so that some round changes nothing.
        if changed is None:
            return None
        found = _ring_behind(ahead, changed)
        if found is not None:
            return found


def _ring_behind(ahead, start):
    """The ring into which the steps back from a node lead, in the order of its bounds; None if they end."""
    node = start
    for _ in range(len(ahead)):
        if node not in ahead:
            return None
        node = ahead[node]
    if node not in ahead:
        return None
    found = [node]
    step = ahead[node]
    while step != node:
        found.append(step)
        step = ahead[step]
    return found[::-1]


def is_losing_ring(bounds, nodes):
    """Whether a list of nodes is a ring of two or more different ones whose bounds sum to less than 0."""
    if len(nodes) < 2 or len(set(nodes)) != len(nodes):
        return False
    steps = list(zip(nodes, list(nodes[1:]) + [nodes[0]]))
    if not all([step in bounds for step in steps]):
        return False
    return sum([bounds[step] for step in steps]) < 0
