"""Known rain: the net of all bounds on the evenings of a stretch of days, and what keeps them."""

from blindweirs.errors import BadRows
from blindweirs.given import need_number_from, need_river, need_water
from blindweirs.kept import comes_from, let_down, outlets_by_point, places_above, standing_of
from blindweirs.steps import need_rows
from blindweirs.tables import sums, water_of
from blindweirs.values import is_list, is_number, is_pair
from blindweirs.ways import is_losing_ring, least_to, losing_ring


def need_known(river, first, rows, water):
    """What all functions of known rain ask of their first parameters."""
    need_river(river)
    need_number_from(first, 0)
    need_rows(river, first, rows)
    if len(rows) == 0:
        raise BadRows(None)
    need_water(river.lags, water)


def _node(day, point):
    """The node of a point in the evening of a day: above all cells there is node 0 alone."""
    if point == 0:
        return 0
    return (day, point)


def is_node(thing):
    """Whether any value has the form of a node."""
    if is_number(thing):
        return thing == 0
    return is_pair(thing) and is_number(thing[0]) and is_number(thing[1])


def _rank(pair):
    """What puts pairs of nodes in their order, node 0 ahead of all pairs."""
    return tuple([() if node == 0 else node for node in pair])


def _tell(told, x, y, number):
    """Take in a bound, unless a lesser one is told of the same pair."""
    if (x, y) not in told or number < told[(x, y)]:
        told[(x, y)] = number


def net(river, first, rows, water):
    """The dict from pairs of nodes to the least bound on the sum at the first less that at the second one."""
    need_known(river, first, rows, water)
    told = {}
    for at, row in enumerate(rows):
        day = river.day_on(first + at)
        _tell_marks(told, day, first + at)
        _tell_outlets(told, day, first + at, coming(day, row, water if at == 0 else None), at == 0)
    return {pair: told[pair] for pair in sorted(told, key=_rank)}


def coming(day, row, water):
    """The list of what comes in the morning ahead of the points; water is None behind the first day."""
    above = places_above(day.lags)
    come = comes_from(day.lags)
    rained = sums(row)
    taken = sums(day.takes)
    found = [rained[above[point]] - taken[above[point]] for point in come]
    if water is None:
        return found
    lying = sums(water)
    return [number + lying[point] for number, point in zip(found, come)]


def _tell_marks(told, day, number):
    bounds = day.marks.bounds
    for a, b in bounds:
        _tell(told, _node(number, a), _node(number, b), bounds[(a, b)])
    for point in range(1, day.marks.size + 1):
        _tell(told, _node(number, point - 1), _node(number, point), 0)


def _tell_outlets(told, day, number, come, is_first):
    """What leaves the cells above a point on the way from the morning to the evening; come is what comes there."""
    froms = comes_from(day.lags)
    for point, (least, most) in enumerate(outlets_by_point(day)):
        if point > 0:
            morning = 0 if is_first else _node(number - 1, froms[point])
            _tell(told, (number, point), morning, come[point] - least)
            if most is not None:
                _tell(told, morning, (number, point), most - come[point])


def known(river, first, rows, water):
    """Whether some releases keep all evenings sound."""
    return known_ring(river, first, rows, water) is None


def known_ring(river, first, rows, water):
    """A ring of nodes whose bounds sum to less than 0; None if some releases keep."""
    return losing_ring(net(river, first, rows, water))


def is_known_ring(river, first, rows, water, thing):
    """Whether any value is a ring of nodes whose bounds sum to less than 0."""
    bounds = net(river, first, rows, water)
    if not is_list(thing) or not all([is_node(node) for node in thing]):
        return False
    return is_losing_ring(bounds, thing)


def known_plan(river, first, rows, water):
    """The releases that keep with the highest evenings; None if none keep."""
    bounds = net(river, first, rows, water)
    if losing_ring(bounds) is not None:
        return None
    return plan_of(river, first, rows, water, least_to(bounds, 0))


def plan_of(river, first, rows, water, heights):
    """The releases that lead to evenings with these sums at the nodes."""
    plan = []
    lying = water
    for at, row in enumerate(rows):
        day = river.day_on(first + at)
        standing = standing_of(day, lying, row)
        lying = water_of([heights[_node(first + at, point)] for point in range(len(water) + 1)])
        plan.append(let_down(day, standing, lying))
    return plan
