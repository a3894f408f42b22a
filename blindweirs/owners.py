"""Owners of two parts of a river who keep a promise at the border."""

from blindweirs.days import Day, River, point_of, size_of
from blindweirs.errors import BadPlace, BadPromise, NotApart
from blindweirs.given import need_number_between, need_river, need_stretch, need_water
from blindweirs.kept import can_keep
from blindweirs.search import first_from, last_up_to
from blindweirs.tables import Table, closed, hidden
from blindweirs.values import is_list, is_number_between, is_number_from, is_pair

MOST_PROMISED = 1000000000000


def _need_border(river, border):
    """The border must be a place but the last one, and no mark may lead across it."""
    if not is_number_between(border, 0, len(river.lags) - 2):
        raise BadPlace("a border is a place but the last one")
    point = point_of(river.lags, border)
    for day in river.days:
        for pair in day.marks.bounds:
            if min(pair) < point < max(pair):
                raise NotApart("a mark has one point above and one below the border")


def _is_span(thing):
    return is_pair(thing) and is_number_from(thing[0], 0) and is_number_from(thing[1], thing[0])


def _need_promise(river, promise):
    if not is_list(promise) or len(promise) != len(river) or not all([_is_span(span) for span in promise]):
        raise BadPromise("no pair of the least and the greatest number for each day of the river")


def _narrowed(outlet, span):
    """What lies both within an outlet and a span; None if nothing does."""
    least = max(outlet[0], span[0])
    most = span[1]
    if outlet[1] is not None:
        most = min(most, outlet[1])
    if least > most:
        return None
    return (least, most)


def _is_open(river, border, promise):
    """Whether something is left of the border's outlet on each day."""
    return None not in [_narrowed(day.outlets[border], span) for day, span in zip(river.days, promise)]


def upper_river(river, border, promise):
    """The river of the places up to the border."""
    need_river(river)
    _need_border(river, border)
    _need_promise(river, promise)
    if not _is_open(river, border, promise):
        raise BadPromise("on some day nothing of the outlet lies within the promise")
    return River([_upper_day(day, border, span) for day, span in zip(river.days, promise)])


def _upper_day(day, border, span):
    lags = day.lags[:border] + (0,)
    outlets = day.outlets[:border] + (_narrowed(day.outlets[border], span),)
    rain = hidden(day.rain, tuple(range(border + 2, len(day.lags) + 1)))
    most = size_of(lags)
    bounds = day.marks.bounds
    marks = Table(most, {pair: bounds[pair] for pair in bounds if max(pair) <= most})
    return Day(lags, outlets, rain, day.takes[:border + 1], marks)


def lower_river(river, border, promise):
    """The river behind the border, with a door for what is let down there."""
    need_river(river)
    _need_border(river, border)
    _need_promise(river, promise)
    return River([_lower_day(day, border, span) for day, span in zip(river.days, promise)])


def _lower_day(day, border, span):
    lags = day.lags[border:]
    outlets = ((0, None),) + day.outlets[border + 1:]
    rain = _told_from(closed(day.rain).bounds, border + 1)
    rain[(1, 0)] = span[1]
    rain[(0, 1)] = -span[0]
    takes = (0,) + day.takes[border + 1:]
    marks = _told_from(day.marks.bounds, point_of(day.lags, border))
    marks[(1, 0)] = 0
    return Day(lags, outlets, closed(Table(len(lags), rain)), takes, Table(size_of(lags), marks))


def _told_from(bounds, least):
    """The bounds between the points from this one on, which is told as point 1."""
    back = least - 1
    return {(a - back, b - back): bounds[(a, b)] for a, b in bounds if min(a, b) >= least}


def parts_of(river, border, water):
    """The waters of the upper and of the lower river."""
    need_river(river)
    _need_border(river, border)
    need_water(river.lags, water)
    return _parts(river, border, water)


def _parts(river, border, water):
    point = point_of(river.lags, border)
    return (water[:point], (0,) + water[point:])


def promise_stretch(river, border, first, last, water, least):
    """The least and the greatest number up to which may be promised such that both parts can be kept."""
    need_river(river)
    _need_border(river, border)
    need_stretch(first, last)
    need_water(river.lags, water)
    need_number_between(least, 0, MOST_PROMISED)
    above, below = _parts(river, border, water)

    def promised(most):
        return [(least, most)] * len(river)

    def upper_keeps(most):
        promise = promised(most)
        return _is_open(river, border, promise) and can_keep(upper_river(river, border, promise), first, last, above)

    def lower_keeps(most):
        return can_keep(lower_river(river, border, promised(most)), first, last, below)

    # The more is promised at most, the easier it is above, and the harder below.
    low = first_from(least, MOST_PROMISED, upper_keeps)
    if low is None:
        return None
    high = last_up_to(low, MOST_PROMISED, lower_keeps)
    if high is None:
        return None
    return (low, high)
