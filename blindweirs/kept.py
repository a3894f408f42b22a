"""The waters from which all marks can be kept blind, for all rains."""

from blindweirs.days import cells_of, point_of, size_of
from blindweirs.errors import BadTable, OtherSize
from blindweirs.given import need_day, need_morning, need_river, need_stretch, need_water
from blindweirs.steps import flow, need_releases
from blindweirs.tables import Table, both, closed, highest, is_empty, is_within, lowest, nothing, sums
from blindweirs.values import is_list, is_pair


def comes_from(lags):
    """The tuple of the points of the morning from which the points of the evening come."""
    found = [0]
    for at, (_, step) in enumerate(cells_of(lags)):
        if step == 0:
            found.append(at + 1)
        else:
            found.append(at)
    return tuple(found)


def places_above(lags):
    """The list of the numbers of places above the points."""
    found = [0]
    for _, step in cells_of(lags):
        if step == 0:
            found.append(found[-1] + 1)
        else:
            found.append(found[-1])
    return found


def outlets_by_point(day):
    """The list of the least and the greatest number that may leave the cells above each point."""
    found = [(0, 0)]
    for place, step in cells_of(day.lags):
        if step == 0:
            found.append(day.outlets[place])
        else:
            found.append((0, 0))
    return found


def gains(day):
    """What leading back adds to a bound of the evening, for each pair of points that binds the morning."""
    come = comes_from(day.lags)
    outlets = outlets_by_point(day)
    above = places_above(day.lags)
    taken = sums(day.takes)
    rain = closed(day.rain).bounds
    found = {}
    for a, (_, most) in enumerate(outlets):
        # Where as much as one likes may be let down, no bound from above binds the morning.
        if most is not None:
            for b, (least, _) in enumerate(outlets):
                if a != b:
                    p, q = above[come[a]], above[come[b]]
                    found[(a, b)] = most - least - rain.get((p, q), 0) + taken[p] - taken[q]
    return found


def before(day, after):
    """The closed table of the mornings from which each row can be led into a table of the evening."""
    need_day(day)
    if not isinstance(after, Table):
        raise BadTable("after")
    if after.size != size_of(day.lags):
        raise OtherSize("the table has another size than the day")
    return _led_back(day, closed(after))


def _led_back(day, after):
    """The same of a table that is closed."""
    if after == nothing(after.size):
        return after
    come = comes_from(day.lags)
    added = gains(day)
    limits = after.bounds
    bounds = {}
    for a, b in limits:
        if (a, b) in added:
            number = limits[(a, b)] + added[(a, b)]
            pair = (come[a], come[b])
            if pair[0] != pair[1]:
                bounds[pair] = min(number, bounds.get(pair, number))
            elif number < 0:
                return nothing(after.size)
    return closed(Table(after.size, bounds))


def tables(river, first, last):
    """The list of a pair of the tables of the morning and the evening for each day."""
    need_river(river)
    need_stretch(first, last)
    pairs = []
    following = None
    for number in reversed(range(first, last + 1)):
        pairs.append(two_tables(river.day_on(number), following))
        following = pairs[-1][0]
    return pairs[::-1]


def two_tables(day, following):
    """The tables of the morning and the evening of a day ahead of a morning's table; None if any water will do."""
    after = day.sound
    if following is not None:
        after = closed(both(after, following))
    return (_led_back(day, after), after)


def can_keep(river, first, last, water):
    """Whether all evenings can be kept sound from a water, whatever rows come."""
    need_river(river)
    need_stretch(first, last)
    need_water(river.lags, water)
    return tables(river, first, last)[0][0].fits(water)


def releases_for(river, first, last, water, row):
    """The least and the greatest releases behind which the evening fits; None if there are none."""
    need_morning(river, first, last, water, row)
    day = river.day_on(first)
    after = tables(river, first, last)[0][1]
    standing = standing_of(day, water, row)
    within = both(after, within_reach(day, standing))
    if is_empty(within):
        return None
    least = let_down(day, standing, highest(within))
    greatest = let_down(day, standing, lowest(within))
    return (least, greatest)


def standing_of(day, water, row):
    """The sums of what would lie there in the evening if nothing were let down."""
    return sums(flow(day, water, row, [0] * len(row)))


def within_reach(day, standing):
    """The table of the evenings that releases can make of what would lie there without any."""
    bounds = {}
    for point, (least, most) in enumerate(outlets_by_point(day)):
        if point > 0:
            bounds[(point, 0)] = standing[point] - least
            if most is not None:
                bounds[(0, point)] = most - standing[point]
    return Table(len(standing) - 1, bounds)


def let_down(day, standing, water):
    """The releases by which a water comes of what would lie there without any."""
    left = sums(water)
    points = [point_of(day.lags, place) for place in range(len(day.lags))]
    return tuple([standing[point] - left[point] for point in points])


def is_keeping(river, first, last, water, row, releases):
    """Whether the evening behind these releases fits the first evening of the tables."""
    need_morning(river, first, last, water, row)
    day = river.day_on(first)
    need_releases(day, releases)
    return tables(river, first, last)[0][1].fits(flow(day, water, row, releases))


def is_led(river, first, last, thing):
    """Whether any value is a list of tables that lead from day to day."""
    need_river(river)
    need_stretch(first, last)
    if not is_list(thing) or len(thing) != last - first + 1:
        return False
    if not all([_are_two_tables(item, size_of(river.lags)) for item in thing]):
        return False
    for at, (morning, after) in enumerate(thing):
        day = river.day_on(first + at)
        if not is_within(morning, before(day, after)) or not is_within(after, day.sound):
            return False
        if first + at < last and not is_within(after, thing[at + 1][0]):
            return False
    return True


def _are_two_tables(thing, size):
    return is_pair(thing) and all([isinstance(part, Table) and part.size == size for part in thing])
