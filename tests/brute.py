"""What the tests look through one by one: waters, rows, releases, and the game itself."""

from itertools import product

from blindweirs.days import Day, River, is_rain, point_of, rain_between
from blindweirs.desk import Desk
from blindweirs.due import Season
from blindweirs.live import Led
from blindweirs.rights import Rights
from blindweirs.steps import evening, is_sound
from blindweirs.sums import LeastSum
from blindweirs.tables import Table, both, closed, sums
from blindweirs.texts import river_text


def any_values():
    """Values of all kinds, none of which is anything that the package judges."""
    day = Day([0], [(0, 2)], rain_between([0], [1]))
    river = River([day])
    deep = []
    for _ in range(11):
        deep = [deep]
    return [None, True, False, "", "mark", 0, 7, -1, {}, {1: 2}, {"a": [1]}, [None], (None,), [[]], ((),),
            deep, Table(1), day, river, Rights(), [Table(1)], (day,), [(True, 1)], (True, 2), [True, 0],
            ("mark",), [("mark",)], [(1, 2)], [(1, 2, 3, 4, 5, 6)], [("evening", 0, 1, 0, 5, None)],
            LeastSum([(0, ())]), Season(river, 0, 0, (0,), Rights()), Led(river, Rights(), 0, (0,)),
            Desk(river_text(river), 0, (0,)), {None: None}, {(0, True): 1}, {((0, 0), (0, 0)): ((0, 0), (0, True))}]


def waters(size, low, high):
    return list(product(range(low, high + 1), repeat=size))


def fitting(table, low, high):
    return [water for water in waters(table.size, low, high) if table.fits(water)]


def rows_of(day):
    most = closed(day.rain).bounds[(day.rain.size, 0)]
    return fitting(day.rain, 0, most)


def all_releases(day, water, row):
    """All releases behind which the evening can be without a number below 0, and some more."""
    most = max(0, max(sums(water))) + sum(row) + 1
    ends = [(least, max(least, most) if greatest is None else greatest) for least, greatest in day.outlets]
    return list(product(*[range(least, greatest + 1) for least, greatest in ends]))


def can_win(river, number, last, water, known):
    """Whether the game is won from a water, played through for all rows and all releases."""
    if number > last:
        return True
    if (number, water) not in known:
        day = river.day_on(number)
        known[(number, water)] = all(
            any(is_sound(day, lying) and can_win(river, number + 1, last, lying, known)
                for lying in (evening(day, water, row, told) for told in all_releases(day, water, row)))
            for row in rows_of(day))
    return known[(number, water)]


def all_that_keep(river, first, rows, water):
    """All plans of releases that keep, with their evenings, by trying all releases of each day."""
    found = [([], [])]
    for at, row in enumerate(rows):
        day = river.day_on(first + at)
        longer = []
        for plan, evenings in found:
            lying = evenings[-1] if evenings else water
            for told in all_releases(day, lying, row):
                left = evening(day, lying, row, told)
                if is_sound(day, left):
                    longer.append((plan + [tuple(told)], evenings + [left]))
        found = longer
    return found


def highest_of(found):
    """The plan whose evenings have the greatest sums at all points, of plans with their evenings."""
    heights = [[sums(left) for left in evenings] for _, evenings in found]
    top = [tuple(max(numbers) for numbers in zip(*told)) for told in zip(*heights)]
    return found[heights.index(top)][0]


def some_known(choice, most_days=3):
    """A small river, a first day, rows of the days from there on, and a water."""
    river = some_river(choice)
    size = len(river.day_on(0).lags) + sum(river.day_on(0).lags)
    first = choice.randint(0, 2)
    many = choice.randint(1, most_days if size < 3 else 2)
    rows = [choice.choice(rows_of(river.day_on(first + at))) for at in range(many)]
    water = tuple(choice.randint(0, 3 if size < 4 else 2) for _ in range(size))
    return river, first, rows, water


def some_table(choice, size, low, high, share):
    pairs = [(a, b) for a in range(size + 1) for b in range(size + 1) if a != b]
    return Table(size, {pair: choice.randint(low, high) for pair in pairs if choice.random() < share})


def some_rain(choice, places):
    while True:
        least = [choice.randint(0, 1) for _ in range(places)]
        rain = rain_between(least, [low + choice.randint(0, 1) for low in least])
        if choice.random() < 0.4:
            rain = both(rain, some_table(choice, places, -1, 2, 0.3))
        if is_rain(rain):
            return rain


def some_day(choice, lags):
    places, size = len(lags), len(lags) + sum(lags)
    outlets = []
    for _ in range(places):
        least = choice.choice([0, 0, 0, 1])
        outlets.append((least, choice.choice([None, least, least + 1, least + 2])))
    takes = [choice.choice([0, 0, 1]) for _ in range(places)]
    marks = Table(size, {(cell + 1, cell): choice.randint(1, 3) for cell in range(size)})
    if choice.random() < 0.6:
        marks = both(marks, some_table(choice, size, -1, 4, 0.2))
    return Day(lags, outlets, some_rain(choice, places), takes, marks)


def some_river(choice):
    lags = choice.choice([[0], [0, 0], [1, 0], [2, 0], [0, 1, 0]])
    return River([some_day(choice, lags) for _ in range(choice.randint(1, 2))])


LOW_LAGS = [[0], [0, 0], [1, 0], [2, 0], [0, 0, 0], [1, 0, 0]]


def plain_day(choice, lags):
    """A day of a season, some of whose rooms and outlets have no bound."""
    outlets = [(0, choice.choice([None, 0, 1, 2, 3])) for _ in lags]
    rooms = {}
    for place in range(len(lags)):
        point = point_of(lags, place)
        if choice.random() < 0.7:
            rooms[(point, point - 1)] = choice.randint(0, 3)
    return Day(lags, outlets, rain_between([0] * len(lags), [1] * len(lags)), None,
               Table(len(lags) + sum(lags), rooms))


def some_season(choice, lags=None, first=None, many=None, most_spots=6, most_rights=4, most_amount=3):
    lags = choice.choice(LOW_LAGS) if lags is None else lags
    first = choice.choice([0, 0, 1, 5, 10 ** 7]) if first is None else first
    many = choice.randint(1, max(1, min(3, most_spots // len(lags)))) if many is None else many
    river = River([plain_day(choice, lags) for _ in range(choice.randint(1, 2))])
    water = tuple(choice.choice([0, 0, 1, 2]) for _ in range(len(lags) + sum(lags)))
    names = choice.sample("abcde", choice.randint(0, most_rights))
    rights = Rights([(name, choice.randrange(len(lags)), first + choice.randrange(many), choice.randint(1, most_amount))
                     for name in names])
    return Season(river, first, first + many - 1, water, rights)


def spots_of(season):
    return [(day, place) for day in range(season.first, season.last + 1) for place in range(len(season.river.lags))]


def some_rains(choice, season, most=3):
    return {spot: choice.randint(0, most) for spot in spots_of(season) if choice.random() < 0.6}


def are_possible(season, rains, takings):
    """Whether there is a course, by trying all releases and all evenings."""
    taken = {}
    for name, number in takings.items():
        _, place, day, _ = season.rights.right(name)
        taken[(day, place)] = taken.get((day, place), 0) + number
    return _can_go_on(season, season.first, season.water, rains, taken, {})


def _can_go_on(season, number, water, rains, taken, known):
    if number > season.last:
        return True
    if (number, water) not in known:
        day = season.river.day_on(number)
        lags = day.lags
        row = [rains.get((number, place), 0) - taken.get((number, place), 0) for place in range(len(lags))]
        most = sum(water) + sum(max(0, coming) for coming in row)
        ranges = [range(min(most, most if greatest is None else greatest) + 1) for _, greatest in day.outlets]
        known[(number, water)] = any(
            _can_go_on(season, number + 1, lying, rains, taken, known)
            for releases in product(*ranges) for lying in _evenings(day, water, row, releases))
    return known[(number, water)]


def _evenings(day, water, row, releases):
    """All waters that may lie there in the evening, when something or nothing is spilled."""
    cells = []
    at = 0
    for place, lag in enumerate(day.lags):
        left = water[at] + row[place] - releases[place]
        if place > 0:
            left += releases[place - 1] if day.lags[place - 1] == 0 else water[at - 1]
        room = day.marks.bounds.get((at + 1, at))
        cells.append(range((left if room is None else min(left, room)) + 1))
        way = [releases[place], *water[at + 1:at + lag]] if lag > 0 else []
        cells += [[lying] for lying in way]
        at += lag + 1
    return list(product(*cells))
