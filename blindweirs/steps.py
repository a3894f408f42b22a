"""What a day does to the water, and walks from day to day."""

from blindweirs.days import MOST_DAYS, cells_of
from blindweirs.errors import BadReleases, BadRows
from blindweirs.given import is_row, need_day, need_number_from, need_river, need_row, need_water
from blindweirs.tables import sums
from blindweirs.values import is_list, is_number_from


def are_releases(day, thing):
    """Whether any value is a list of numbers within the outlets of the day."""
    if not is_list(thing) or len(thing) != len(day.outlets):
        return False
    for release, (least, greatest) in zip(thing, day.outlets):
        if not is_number_from(release, least):
            return False
        if greatest is not None and release > greatest:
            return False
    return True


def need_releases(day, releases):
    if not are_releases(day, releases):
        raise BadReleases("no releases within the outlets")


def flow(day, water, row, releases):
    """The water of the evening, also by releases that no outlet has."""
    moved = []
    for at, (place, step) in enumerate(cells_of(day.lags)):
        if step == 0:
            kept = water[at] + row[place] - day.takes[place] - releases[place]
            moved.append(kept + _coming(day, water, releases, place, at))
        elif step == 1:
            moved.append(releases[place])
        else:
            moved.append(water[at - 1])
    return tuple(moved)


def _coming(day, water, releases, place, at):
    """What comes to a place, whose cell is at this index, from the place above."""
    if place == 0:
        return 0
    if day.lags[place - 1] == 0:
        return releases[place - 1]
    return water[at - 1]


def evening(day, water, row, releases):
    """The water of the evening, sound or not."""
    need_day(day)
    need_water(day.lags, water)
    need_row(day, row)
    need_releases(day, releases)
    return flow(day, water, row, releases)


def is_sound(day, water):
    """Whether a water fits the marks and has no number below 0."""
    need_day(day)
    need_water(day.lags, water)
    return day.sound.fits(water)


def broken(day, water):
    """The ascending list of the pairs of points whose bound is broken."""
    need_day(day)
    need_water(day.lags, water)
    found = {}
    height = sums(water)
    bounds = day.marks.bounds
    for a, b in bounds:
        if height[a] - height[b] > bounds[(a, b)]:
            found[(a, b)] = True
    for cell, number in enumerate(water):
        if number < 0:
            found[(cell, cell + 1)] = True
    return sorted(found)


def need_rows(river, first, rows):
    if not is_list(rows) or len(rows) > MOST_DAYS:
        raise BadRows(None)
    for at, row in enumerate(rows):
        if not is_row(river.day_on(first + at), row):
            raise BadRows(at)


def _need_all_releases(river, first, many, releases):
    if not is_list(releases) or len(releases) != many:
        raise BadReleases("no list of releases for each row")
    for at, told in enumerate(releases):
        need_releases(river.day_on(first + at), told)


def walk(river, first, water, rows, releases):
    """The list of the evenings, from day first on."""
    need_river(river)
    need_number_from(first, 0)
    need_water(river.lags, water)
    need_rows(river, first, rows)
    _need_all_releases(river, first, len(rows), releases)
    evenings = []
    lying = water
    for at, row in enumerate(rows):
        lying = flow(river.day_on(first + at), lying, row, releases[at])
        evenings.append(lying)
    return evenings


def first_unsound(river, first, water, rows, releases):
    """The index of the first evening of a walk that is not sound; None if all are."""
    for at, lying in enumerate(walk(river, first, water, rows, releases)):
        if not is_sound(river.day_on(first + at), lying):
            return at
    return None
