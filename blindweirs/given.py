"""What parameters must be, and the errors for what they are not."""

from blindweirs.days import MOST_DAYS, Day, River, size_of
from blindweirs.errors import BadDay, BadNumber, BadPlace, BadRiver, BadRow, BadWater
from blindweirs.tables import is_water
from blindweirs.values import is_number_between, is_number_from


def need_day(day):
    if not isinstance(day, Day):
        raise BadDay(None)


def need_river(river):
    if not isinstance(river, River):
        raise BadRiver("no river")


def need_water(lags, water):
    if not is_water(water) or len(water) != size_of(lags):
        raise BadWater("no water of the cells concerned")


def need_place(lags, place):
    if not is_number_between(place, 0, len(lags) - 1):
        raise BadPlace("the places of a river are numbered from 0")


def need_number_from(number, least):
    if not is_number_from(number, least):
        raise BadNumber("no number, or less than it may be")


def need_number_between(number, least, most):
    if not is_number_between(number, least, most):
        raise BadNumber("no number, or less or more than it may be")


def need_stretch(first, last):
    need_number_from(first, 0)
    need_number_between(last, first, first + MOST_DAYS - 1)


def is_row(day, thing):
    """Whether any value is a row that the rain of the day has."""
    return is_water(thing) and len(thing) == day.rain.size and day.rain.fits(thing)


def need_row(day, row):
    if not is_row(day, row):
        raise BadRow("no row that the rain of the day has")


def need_morning(river, first, last, water, row):
    """What is asked of the morning of a first day whose row is known."""
    need_river(river)
    need_stretch(first, last)
    need_water(river.lags, water)
    need_row(river.day_on(first), row)
