"""What can be kept for ever, when the days of a river come again."""

from blindweirs.days import River, size_of
from blindweirs.given import need_number_between, need_number_from, need_river, need_water
from blindweirs.kept import before, two_tables
from blindweirs.search import first_from
from blindweirs.tables import Table, both, is_empty, is_within, nothing
from blindweirs.values import is_list

MOST_AHEAD = 400


def _mornings(days, following):
    """The tables of the mornings of days, led back from that of the morning behind them."""
    found = []
    for day in reversed(days):
        following = two_tables(day, following)[0]
        found.append(following)
    return found[::-1]


def lasting(river):
    """The list of the table of the waters that last from its morning, for each day of the river."""
    need_river(river)
    size = size_of(river.lags)
    following = None
    for _ in range(size * (size + 1) + 1):
        mornings = _mornings(river.days, following)
        # What comes to rest on one morning of the year does so on all of them.
        if mornings[0] == following:
            return mornings
        following = mornings[0]
    return [nothing(size) for _ in river.days]


def lasts(river, first, water):
    """Whether a water can be kept for ever from the morning of a day."""
    need_river(river)
    need_number_from(first, 0)
    need_water(river.lags, water)
    return lasting(river)[first % len(river)].fits(water)


def is_lasting(river, thing):
    """Whether any value is a list of tables, each of which leads to the next one and the last to the first."""
    need_river(river)
    if not is_list(thing) or len(thing) != len(river):
        return False
    size = size_of(river.lags)
    if not all([isinstance(table, Table) and table.size == size for table in thing]):
        return False
    followings = list(thing[1:]) + [thing[0]]
    for day, table, following in zip(river.days, thing, followings):
        if not is_within(table, before(day, both(day.sound, following))):
            return False
    return True


def years_enough(river):
    """The least number of years such that what can be kept for so many lasts; None if nothing lasts."""
    tables = lasting(river)
    if is_empty(tables[0]):
        return None
    most = 1
    for at, table in enumerate(tables):
        days = turned(river, at).days
        following = _mornings(days, None)[0]
        many = 1
        while following != table:
            following = _mornings(days, following)[0]
            many += 1
        most = max(most, many)
    return most


def failing_day(river, first, water, most):
    """The least last day, not so many days behind the first one, to which a water cannot be kept; None if all can."""
    need_river(river)
    need_number_from(first, 0)
    need_water(river.lags, water)
    need_number_between(most, 0, MOST_AHEAD)

    def fails(last):
        days = [river.day_on(number) for number in range(first, last + 1)]
        return not _mornings(days, None)[0].fits(water)

    # To a later day a water can be kept only if it can be kept to all days ahead of it.
    return first_from(first, first + most, fails)


def turned(river, number):
    """The river whose first day is the one of this number."""
    need_river(river)
    need_number_from(number, 0)
    at = number % len(river)
    return River(river.days[at:] + river.days[:at])
