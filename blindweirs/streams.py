"""As much as can flow: what goes along the pairs of a net from a source to a goal."""

from blindweirs.flows import way_back


def greatest_flow(limits, source, goal):
    """The dict from pairs to what goes along them, if as much as can be goes from a source to a goal.

    The limits are a dict from pairs of nodes to numbers from 0 on, or to None for no limit; each way meets a number.
    """
    beside = _beside(limits)
    sent = {pair: 0 for pair in limits}
    way = _open_way(limits, beside, sent, source, goal)
    while way is not None:
        _send(limits, sent, way)
        way = _open_way(limits, beside, sent, source, goal)
    return sent


def _beside(limits):
    """The list of the nodes that share a pair with each node."""
    found = {node: [] for pair in limits for node in pair}
    for x, y in limits:
        found[x].append(y)
        if (y, x) not in limits:
            found[y].append(x)
    return found


def _is_open(limits, sent, x, y):
    """Whether more can go from x to y, also by sending less from y to x."""
    if sent.get((y, x), 0) > 0:
        return True
    return (x, y) in limits and (limits[(x, y)] is None or sent[(x, y)] < limits[(x, y)])


def _open_way(limits, beside, sent, source, goal):
    """A way of as few steps as can be along which more can go; None if there is none."""
    ahead = {source: source}
    reached = [source]
    at = 0
    # The shortest ways first: so there are few of them, however great the numbers are.
    while at < len(reached):
        node = reached[at]
        for further in beside.get(node, []):
            if further not in ahead and _is_open(limits, sent, node, further):
                ahead[further] = node
                reached.append(further)
        at += 1
    if goal not in ahead:
        return None
    return way_back(ahead, source, goal)


def _send(limits, sent, way):
    """Send as much along a way as all of its steps allow."""
    steps = list(zip(way, way[1:]))
    rooms = [_room(limits, sent, x, y) for x, y in steps]
    amount = min([room for room in rooms if room is not None])
    for x, y in steps:
        if sent.get((y, x), 0) > 0:
            sent[(y, x)] -= amount
        else:
            sent[(x, y)] += amount


def _room(limits, sent, x, y):
    """How much more can go by one step, None for any number; what comes back is taken back first."""
    if sent.get((y, x), 0) > 0:
        return sent[(y, x)]
    if limits[(x, y)] is None:
        return None
    return limits[(x, y)] - sent[(x, y)]
