"""What can be kept if the rain is seen some days ahead."""

from blindweirs.days import MOST_DAYS, rain_between
from blindweirs.errors import NotPlain, TooMany
from blindweirs.given import need_number_between, need_river, need_stretch, need_water
from blindweirs.kept import two_tables
from blindweirs.search import first_from
from blindweirs.tables import both, closed

MOST_CORNERS = 64


def _ends(rain):
    """The lists of the least and of the greatest rain of each place."""
    bounds = closed(rain).bounds
    places = range(rain.size)
    return ([-bounds[(place, place + 1)] for place in places], [bounds[(place + 1, place)] for place in places])


def _need_plain(river, first, last):
    for number in range(first, last + 1):
        rain = river.day_on(number).rain
        least, greatest = _ends(rain)
        if closed(rain) != closed(rain_between(least, greatest)):
            raise NotPlain(number)


def _corners(rain):
    """The list of the rows with a least or a greatest number at each place."""
    least, greatest = _ends(rain)
    rows = [()]
    for ends in zip(least, greatest):
        rows = [row + (number,) for row in rows for number in sorted(set(ends))]
    return rows


def _all_corners(river, first, last, days):
    """The list of the corners of each day, not too many of them together where somebody sees so many days ahead."""
    _need_plain(river, first, last)
    corners = [_corners(river.day_on(number).rain) for number in range(first, last + 1)]
    for at in range(max(1, len(corners) - days)):
        many = 1
        for rows in corners[at:at + days + 1]:
            many = many * len(rows)
        if many > MOST_CORNERS:
            raise TooMany(MOST_CORNERS)
    return corners


def _choices(corners):
    """The list of the tuples of one row for each day."""
    found = [()]
    for rows in corners:
        found = [chosen + (row,) for chosen in found for row in rows]
    return found


def _seen(river, first, corners, days):
    """The closed table of the waters that can be kept by somebody who sees so many days ahead."""
    known = {(): None}
    for at in reversed(range(len(corners))):
        day = river.day_on(first + at)
        told = {row: day.with_rain(rain_between(row, row)) for row in corners[at]}
        found = {}
        for rows in _choices(corners[at:at + days + 1]):
            morning = two_tables(told[rows[0]], known[rows[1:]])[0]
            # The last of these rows is not yet known when the day ahead is led: all that it may be must be kept.
            ahead = rows[:days]
            if ahead in found:
                morning = both(found[ahead], morning)
            found[ahead] = morning
        known = found
    tables = list(known.values())
    table = tables[0]
    for further in tables[1:]:
        table = both(table, further)
    return closed(table)


def seen_table(river, first, last, days):
    """The closed table of the waters that can be kept if the rows of so many days ahead are known."""
    need_river(river)
    need_stretch(first, last)
    need_number_between(days, 0, MOST_DAYS)
    return _seen(river, first, _all_corners(river, first, last, days), days)


def can_see(river, first, last, water, days):
    """Whether a water can be kept if the rows of so many days ahead are known."""
    need_river(river)
    need_stretch(first, last)
    need_water(river.lags, water)
    return seen_table(river, first, last, days).fits(water)


def worth_of_seeing(river, first, last, water):
    """The least number of days ahead with which a water can be kept; None if none is enough."""
    need_river(river)
    need_stretch(first, last)
    need_water(river.lags, water)
    corners = _all_corners(river, first, last, last - first)
    return first_from(0, last - first, lambda days: _seen(river, first, corners, days).fits(water))
