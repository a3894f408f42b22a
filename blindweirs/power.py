"""Turbines: the dearest way to let water down, for known rain and for a river that is led blind."""

from blindweirs.days import point_of
from blindweirs.errors import BadPrices, BadReleases, TooMany
from blindweirs.flows import cheapest_flow, highest_of_best
from blindweirs.given import need_morning
from blindweirs.kept import let_down, standing_of, tables, within_reach
from blindweirs.nets import coming, is_node, need_known, net, plan_of
from blindweirs.steps import flow
from blindweirs.tables import both, closed, is_empty, water_of
from blindweirs.values import is_list, is_number, is_number_from, is_pair
from blindweirs.ways import losing_ring

MOST_POWER_DAYS = 12
MOST_POWER_CELLS = 8


def _are_numbers(thing, many):
    return is_list(thing) and len(thing) == many and all([is_number(number) for number in thing])


def _is_grid(thing, rows, columns):
    """Whether any value is a list of so many lists of so many numbers."""
    return is_list(thing) and len(thing) == rows and all([_are_numbers(row, columns) for row in thing])


def yielded(prices, releases):
    """The sum of all releases, each times its price."""
    if not is_list(prices) or len(prices) == 0 or not is_list(prices[0]) or len(prices[0]) == 0:
        raise BadPrices("one list of prices or more, with one price or more in each")
    if not _is_grid(prices, len(prices), len(prices[0])):
        raise BadPrices("as many prices in each list")
    if not _is_grid(releases, len(prices), len(prices[0])):
        raise BadReleases("releases of the shape of the prices")
    return sum([_times(told, let) for told, let in zip(prices, releases)])


def _times(prices, releases):
    return sum([price * release for price, release in zip(prices, releases)])


def _need_few(river, days):
    if days > MOST_POWER_DAYS:
        raise TooMany(MOST_POWER_DAYS)
    if river.days[0].marks.size > MOST_POWER_CELLS:
        raise TooMany(MOST_POWER_CELLS)


def _need_all(river, first, rows, water, prices):
    need_known(river, first, rows, water)
    if not _is_grid(prices, len(rows), len(river.lags)):
        raise BadPrices("one list for each day, one number for each place")
    _need_few(river, len(rows))


def _weights(river, first, prices):
    """The weight of each node behind a place: what a unit brings that lies there one day more."""
    found = {}
    for at, told in enumerate(prices):
        following = [0] * len(told)
        if at + 1 < len(prices):
            following = prices[at + 1]
        for place, price in enumerate(told):
            found[(first + at, point_of(river.lags, place))] = following[place] - price
    return found


def dearest(river, first, rows, water, prices):
    """The greatest yield of releases that keep; None if none keep."""
    plan = dearest_plan(river, first, rows, water, prices)
    if plan is None:
        return None
    return yielded(prices, plan)


def dearest_plan(river, first, rows, water, prices):
    """The releases with the greatest yield, of several ones those with the highest evenings; None if none keep."""
    sent = worths(river, first, rows, water, prices)
    if sent is None:
        return None
    heights = highest_of_best(net(river, first, rows, water), sent)
    return plan_of(river, first, rows, water, heights)


def worths(river, first, rows, water, prices):
    """Worths that show the greatest yield; None if no releases keep."""
    _need_all(river, first, rows, water, prices)
    bounds = net(river, first, rows, water)
    if losing_ring(bounds) is not None:
        return None
    return cheapest_flow(bounds, _weights(river, first, prices))


def shown(river, first, rows, water, prices, thing):
    """What any value shows as worths; None if it is none."""
    _need_all(river, first, rows, water, prices)
    bounds = net(river, first, rows, water)
    if not _are_worths(bounds, _weights(river, first, prices), thing):
        return None
    at_rest = _let_down_to_nothing(river, first, rows, water)
    return yielded(prices, at_rest) + sum([bounds[pair] * thing[pair] for pair in thing])


def _are_worths(bounds, weights, thing):
    """Whether any value is a dict from pairs of the net by which each node but 0 sends out its weight."""
    if not isinstance(thing, dict):
        return False
    left = {node: 0 for pair in bounds for node in pair}
    for pair in thing:
        if not is_pair(pair) or not is_node(pair[0]) or not is_node(pair[1]):
            return False
        if pair not in bounds or not is_number_from(thing[pair], 1):
            return False
        left[pair[0]] += thing[pair]
        left[pair[1]] -= thing[pair]
    return all([node == 0 or left[node] == weights.get(node, 0) for node in left])


def _let_down_to_nothing(river, first, rows, water):
    """The releases, perhaps less than 0, behind which the sum is 0 at all nodes."""
    found = []
    for at, row in enumerate(rows):
        day = river.day_on(first + at)
        come = coming(day, row, water if at == 0 else None)
        found.append([come[point_of(day.lags, place)] for place in range(len(row))])
    return found


def safe_day(river, first, last, water, row, prices):
    """The releases of today with the greatest yield behind which all can be kept; None if there are none."""
    need_morning(river, first, last, water, row)
    if not _are_numbers(prices, len(river.lags)):
        raise BadPrices("one number for each place")
    _need_few(river, last - first + 1)
    return _safest(river.day_on(first), tables(river, first, last)[0][1], water, row, prices)


def _safest(day, after, water, row, prices):
    """The same for a day whose evening must fit a table."""
    standing = standing_of(day, water, row)
    within = both(after, within_reach(day, standing))
    if is_empty(within):
        return None
    bounds = closed(within).bounds
    weights = {point_of(day.lags, place): -price for place, price in enumerate(prices)}
    heights = highest_of_best(bounds, cheapest_flow(bounds, weights))
    return let_down(day, standing, water_of([heights[point] for point in range(len(standing))]))


def led_day_by_day(river, first, rows, water, prices):
    """The yield and the releases of a river that is led by safe_day; None if the water cannot be kept blind."""
    _need_all(river, first, rows, water, prices)
    pairs = tables(river, first, first + len(rows) - 1)
    if not pairs[0][0].fits(water):
        return None
    plan = []
    lying = water
    for at, row in enumerate(rows):
        day = river.day_on(first + at)
        plan.append(_safest(day, pairs[at][1], lying, row, prices[at]))
        lying = flow(day, lying, row, plan[-1])
    return (yielded(prices, plan), plan)
