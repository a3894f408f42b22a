"""What the tests look through one by one: waters, rows, releases, and the game itself."""

from itertools import product

from blindweirs.days import Day, River, is_rain, rain_between
from blindweirs.rights import Rights
from blindweirs.steps import evening, is_sound
from blindweirs.tables import Table, both, closed, sums


def any_values():
    """Values of all kinds, none of which is anything that the package judges."""
    day = Day([0], [(0, 2)], rain_between([0], [1]))
    deep = []
    for _ in range(11):
        deep = [deep]
    return [None, True, False, "", "mark", 0, 7, -1, {}, {1: 2}, {"a": [1]}, [None], (None,), [[]], ((),),
            deep, Table(1), day, River([day]), Rights(), [Table(1)], (day,), [(True, 1)], (True, 2), [True, 0],
            ("mark",), [("mark",)], [(1, 2)], [(1, 2, 3, 4, 5, 6)], [("evening", 0, 1, 0, 5, None)]]


def waters(size, low, high):
    return list(product(range(low, high + 1), repeat=size))


def fitting(table, low, high):
    return [water for water in waters(table.size, low, high) if table.fits(water)]


def rows_of(day):
    most = closed(day.rain).bounds[(day.rain.size, 0)]
    return fitting(day.rain, 0, most)


def all_releases(day, water, row):
    """All releases behind which the evening can be without a number below 0, and some more."""
    most = max(0, max(sums(water))) + sum(row) + 1
    ends = [(least, max(least, most) if greatest is None else greatest) for least, greatest in day.outlets]
    return list(product(*[range(least, greatest + 1) for least, greatest in ends]))


def can_win(river, number, last, water, known):
    """Whether the game is won from a water, played through for all rows and all releases."""
    if number > last:
        return True
    if (number, water) not in known:
        day = river.day_on(number)
        known[(number, water)] = all(
            any(is_sound(day, lying) and can_win(river, number + 1, last, lying, known)
                for lying in (evening(day, water, row, told) for told in all_releases(day, water, row)))
            for row in rows_of(day))
    return known[(number, water)]


def all_that_keep(river, first, rows, water):
    """All plans of releases that keep, with their evenings, by trying all releases of each day."""
    found = [([], [])]
    for at, row in enumerate(rows):
        day = river.day_on(first + at)
        longer = []
        for plan, evenings in found:
            lying = evenings[-1] if evenings else water
            for told in all_releases(day, lying, row):
                left = evening(day, lying, row, told)
                if is_sound(day, left):
                    longer.append((plan + [tuple(told)], evenings + [left]))
        found = longer
    return found


def highest_of(found):
    """The plan whose evenings have the greatest sums at all points, of plans with their evenings."""
    heights = [[sums(left) for left in evenings] for _, evenings in found]
    top = [tuple(max(numbers) for numbers in zip(*told)) for told in zip(*heights)]
    return found[heights.index(top)][0]


def some_known(choice, most_days=3):
    """A small river, a first day, rows of the days from there on, and a water."""
    river = some_river(choice)
    size = len(river.day_on(0).lags) + sum(river.day_on(0).lags)
    first = choice.randint(0, 2)
    many = choice.randint(1, most_days if size < 3 else 2)
    rows = [choice.choice(rows_of(river.day_on(first + at))) for at in range(many)]
    water = tuple(choice.randint(0, 3 if size < 4 else 2) for _ in range(size))
    return river, first, rows, water


def some_table(choice, size, low, high, share):
    pairs = [(a, b) for a in range(size + 1) for b in range(size + 1) if a != b]
    return Table(size, {pair: choice.randint(low, high) for pair in pairs if choice.random() < share})


def some_rain(choice, places):
    while True:
        least = [choice.randint(0, 1) for _ in range(places)]
        rain = rain_between(least, [low + choice.randint(0, 1) for low in least])
        if choice.random() < 0.4:
            rain = both(rain, some_table(choice, places, -1, 2, 0.3))
        if is_rain(rain):
            return rain


def some_day(choice, lags):
    places, size = len(lags), len(lags) + sum(lags)
    outlets = []
    for _ in range(places):
        least = choice.choice([0, 0, 0, 1])
        outlets.append((least, choice.choice([None, least, least + 1, least + 2])))
    takes = [choice.choice([0, 0, 1]) for _ in range(places)]
    marks = Table(size, {(cell + 1, cell): choice.randint(1, 3) for cell in range(size)})
    if choice.random() < 0.6:
        marks = both(marks, some_table(choice, size, -1, 4, 0.2))
    return Day(lags, outlets, some_rain(choice, places), takes, marks)


def some_river(choice):
    lags = choice.choice([[0], [0, 0], [1, 0], [2, 0], [0, 1, 0]])
    return River([some_day(choice, lags) for _ in range(choice.randint(1, 2))])
