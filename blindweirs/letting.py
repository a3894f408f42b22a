"""What may safely be taken today beyond all rights."""

from blindweirs.days import River, point_of, rain_between
from blindweirs.errors import BadPlaces
from blindweirs.given import (need_number_between, need_number_from, need_place, need_river, need_row, need_stretch,
                              need_water)
from blindweirs.kept import tables
from blindweirs.rights import Rights, need_rights, river_of
from blindweirs.tables import sums
from blindweirs.values import is_list, is_number_between


def told_river(river, rights, first, last, row, place, number):
    """The river of a stretch with all rights taken, the row of its first day known, and a number more taken."""
    need_river(river)
    need_rights(river, rights)
    need_stretch(first, last)
    need_row(river.day_on(first), row)
    need_place(river.lags, place)
    need_number_from(number, 0)
    found = _known_today(river, rights, first, last, row)
    takes = list(found.days[0].takes)
    takes[place] += number
    return River((found.days[0].with_takes(takes),) + found.days[1:])


def _known_today(river, rights, first, last, row):
    found = river_of(river, rights, rights.names, first, last)
    return River((found.days[0].with_rain(rain_between(row, row)),) + found.days[1:])


def _safe_table(river, rights, first, last, row):
    """The waters of the morning from which, with this row, all rights stay sure."""
    return tables(_known_today(river, rights, first, last, row), 0, last - first)[0][0]


def _without(lags, water, place, number):
    """A water with so much less at a place: taken there in the morning it leaves the same evening."""
    at = point_of(lags, place) - 1
    return water[:at] + (water[at] - number,) + water[at + 1:]


def _most_less(table, lags, water, place):
    """How much less may lie at a place such that a water that fits a closed table still fits."""
    point = point_of(lags, place)
    heights = sums(water)
    bounds = table.bounds
    return min([bounds[(a, b)] - heights[a] + heights[b] for a, b in bounds if a < point <= b])


def _need_all(river, rights, first, last, water, row):
    need_river(river)
    need_rights(river, rights)
    need_stretch(first, last)
    need_water(river.lags, water)
    need_row(river.day_on(first), row)


def safe_most(river, rights, first, last, water, row, place):
    """The greatest number that may safely be taken at a place; None if 0 is not safe."""
    _need_all(river, rights, first, last, water, row)
    need_place(river.lags, place)
    found = safe_row(river, rights, first, last, water, row, [place])
    if found is None:
        return None
    return found[0]


def _are_different_places(thing, lags):
    if not is_list(thing) or not all([is_number_between(place, 0, len(lags) - 1) for place in thing]):
        return False
    return len(set(thing)) == len(thing)


def safe_row(river, rights, first, last, water, row, order):
    """The greatest numbers that may safely be taken at places, one behind the other; None if 0 is not safe."""
    _need_all(river, rights, first, last, water, row)
    if not _are_different_places(order, river.lags):
        raise BadPlaces("no list of different places")
    table = _safe_table(river, rights, first, last, row)
    if not table.fits(water):
        return None
    taken = []
    left = water
    for place in order:
        taken.append(_most_less(table, river.lags, left, place))
        left = _without(river.lags, left, place, taken[-1])
    return taken


def younger(river, rights, number, first, last, water, row):
    """The names of the rights of today behind the first ones that are served; None if those are not kept."""
    need_river(river)
    need_rights(river, rights)
    need_number_between(number, 0, len(rights))
    need_stretch(first, last)
    need_water(river.lags, water)
    need_row(river.day_on(first), row)
    table = _safe_table(river, Rights(rights.rights[:number]), first, last, row)
    if not table.fits(water):
        return None
    served = []
    left = water
    for name, place, day, amount in rights.rights[number:]:
        if day == first and table.fits(_without(river.lags, left, place, amount)):
            served.append(name)
            left = _without(river.lags, left, place, amount)
    return tuple(served)
