"""Days of a river, and the river that they make."""

from blindweirs.errors import BadDay, BadDays, BadLags, BadNumber, BadPlace, BadPoints, BadRain
from blindweirs.tables import MOST_CELLS, Table, both, closed, is_bounded
from blindweirs.values import is_list, is_number_between, is_number_from, is_pair

MOST_PLACES = 5
MOST_LAG = 3
MOST_DAYS = 40


def _are_lags(thing):
    if not is_list(thing) or not 1 <= len(thing) <= MOST_PLACES:
        return False
    if not all([is_number_between(lag, 0, MOST_LAG) for lag in thing]) or thing[-1] != 0:
        return False
    return size_of(thing) <= MOST_CELLS


def size_of(lags):
    """The number of the cells of a river with these lags."""
    return len(lags) + sum(lags)


def need_lags(lags):
    if not _are_lags(lags):
        raise BadLags("1 to 5 lags from 0 to 3, the last one 0, with at most 12 cells")


def cells_of(lags):
    """The list of the cells: each place as (place, 0), behind it those of its way."""
    need_lags(lags)
    return [(place, step) for place, lag in enumerate(lags) for step in range(lag + 1)]


def point_of(lags, place):
    """The point behind the cell of a place."""
    need_lags(lags)
    if not is_number_between(place, 0, len(lags) - 1):
        raise BadPlace("the places of a river are numbered from 0")
    return place + sum(lags[:place]) + 1


def is_rain(thing):
    """Whether any value is a bounded table of 1 to 5 cells whose waters have no number below 0."""
    if not isinstance(thing, Table) or thing.size > MOST_PLACES or not is_bounded(thing):
        return False
    bounds = closed(thing).bounds
    return all([bounds[(place, place + 1)] <= 0 for place in range(thing.size)])


def _are_numbers(thing, many):
    """Whether any value is a list of so many numbers from 0 on."""
    return is_list(thing) and len(thing) == many and all([is_number_from(number, 0) for number in thing])


def rain_between(least, greatest):
    """The rain that is told place by place."""
    if not is_list(least) or not 1 <= len(least) <= MOST_PLACES:
        raise BadRain("rain comes to 1 to 5 places")
    if not _are_numbers(least, len(least)) or not _are_numbers(greatest, len(least)):
        raise BadRain("the least and the greatest rain are as many numbers from 0 on")
    bounds = {}
    for place, (low, high) in enumerate(zip(least, greatest)):
        if low > high:
            raise BadRain("the least rain is not greater than the greatest")
        bounds[(place + 1, place)] = high
        bounds[(place, place + 1)] = -low
    return Table(len(least), bounds)


def worst_row(rain, a, b):
    """A row whose sum at a less that at b is as great as that of any row."""
    if not is_rain(rain):
        raise BadRain("no rain")
    if not is_number_between(a, 0, rain.size) or not is_number_between(b, 0, rain.size):
        raise BadPoints("no points of the rain")
    bounds = closed(rain).bounds
    # All points at once can be as far above b as each of them alone.
    heights = [bounds.get((point, b), 0) for point in range(rain.size + 1)]
    return tuple([below - above for above, below in zip(heights, heights[1:])])


def _is_outlet(thing):
    if not is_pair(thing) or not is_number_from(thing[0], 0):
        return False
    return thing[1] is None or is_number_from(thing[1], thing[0])


def _are_outlets(thing, places):
    return is_list(thing) and len(thing) == places and all([_is_outlet(outlet) for outlet in thing])


class Day:
    """What may be let down, what rains and is taken, and what must lie where in the evening."""

    def __init__(self, lags, outlets, rain, takes=None, marks=None):
        need_lags(lags)
        places = len(lags)
        size = size_of(lags)
        if not _are_outlets(outlets, places):
            raise BadDay("outlets")
        if not is_rain(rain) or rain.size != places:
            raise BadDay("rain")
        if takes is None:
            takes = [0] * places
        if not _are_numbers(takes, places):
            raise BadDay("takes")
        if marks is None:
            marks = Table(size)
        if not isinstance(marks, Table) or marks.size != size:
            raise BadDay("marks")
        self._lags = tuple(lags)
        self._outlets = tuple(outlets)
        self._rain = rain
        self._takes = tuple(takes)
        self._marks = marks
        no_less = Table(size, {(cell, cell + 1): 0 for cell in range(size)})
        self._sound = closed(both(marks, no_less))

    @property
    def lags(self):
        return self._lags

    @property
    def outlets(self):
        return self._outlets

    @property
    def rain(self):
        return self._rain

    @property
    def takes(self):
        return self._takes

    @property
    def marks(self):
        return self._marks

    @property
    def sound(self):
        return self._sound

    def with_outlets(self, outlets):
        return Day(self._lags, outlets, self._rain, self._takes, self._marks)

    def with_rain(self, rain):
        return Day(self._lags, self._outlets, rain, self._takes, self._marks)

    def with_takes(self, takes):
        return Day(self._lags, self._outlets, self._rain, takes, self._marks)

    def with_marks(self, marks):
        return Day(self._lags, self._outlets, self._rain, self._takes, marks)

    def __eq__(self, other):
        return (isinstance(other, Day) and self._lags == other._lags and self._outlets == other._outlets
                and self._rain == other._rain and self._takes == other._takes and self._marks == other._marks)


class River:
    """Days with the same lags, which come again and again."""

    def __init__(self, days):
        if not is_list(days) or not 1 <= len(days) <= MOST_DAYS:
            raise BadDays(None)
        for at, day in enumerate(days):
            if not isinstance(day, Day) or day.lags != days[0].lags:
                raise BadDays(at)
        self._days = tuple(days)

    @property
    def days(self):
        return self._days

    @property
    def lags(self):
        return self._days[0].lags

    def day_on(self, number):
        """The day of this number, behind the last one the first one again."""
        if not is_number_from(number, 0):
            raise BadNumber("days are numbered from 0")
        return self._days[number % len(self._days)]

    def __len__(self):
        return len(self._days)

    def __eq__(self, other):
        return isinstance(other, River) and self._days == other._days
