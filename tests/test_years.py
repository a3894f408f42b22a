"""For ever: point 100."""

import random
import unittest

from blindweirs.days import Day, River, cells_of, rain_between
from blindweirs.errors import BadNumber, BadRiver, BadWater
from blindweirs.kept import before, can_keep, two_tables
from blindweirs.tables import Table, both, closed, is_empty, is_within, nothing
from blindweirs.years import failing_day, is_lasting, lasting, lasts, turned, years_enough
from brute import any_values, waters

MOST = 10 ** 12
NUMBERS = [-1, True, False, None, "0", (0,), [1]]


def day_of(most_out, most_come, mark, least_come=0):
    return Day([0], [(0, most_out)], rain_between([least_come], [most_come]), None, Table(1, {(1, 0): mark}))


def one_day():
    return River([day_of(2, 2, 5)])


def two_days():
    """Up to 4 come on the first day, which lets down 1; nothing on the second one, which lets down 3."""
    return River([day_of(1, 4, 5), day_of(3, 0, 5)])


def some_mild_river(choice):
    lags = choice.choice([[0], [0, 0], [1, 0], [2, 0], [0, 1, 0]])
    size, days = len(lags) + sum(lags), []
    for _ in range(choice.randint(1, 3)):
        outlets = [choice.choice([(0, 1), (0, 2), (0, None), (1, 2), (0, 3)]) for _ in lags]
        least = [choice.randint(0, 1) for _ in lags]
        rain = rain_between(least, [low + choice.choice([0, 0, 1]) for low in least])
        bounds = {(cell + 1, cell): choice.randint(1, 9) for cell in range(size)}
        if choice.random() < 0.3:
            cell = choice.randrange(size)
            bounds[(cell, cell + 1)] = -1
        days.append(Day(lags, outlets, rain, None, Table(size, bounds)))
    return River(days)


def kept_for(river, first, many):
    """The waters that can be kept for so many days from the morning of a day."""
    table = None
    for number in reversed(range(first, first + many)):
        table = two_tables(river.day_on(number), table)[0]
    return table


class LastingTest(unittest.TestCase):
    def test_years_of_one_to_three_days(self):
        self.assertEqual([table.bounds for table in lasting(one_day())], [{(0, 1): 0, (1, 0): 5}])
        self.assertEqual([table.bounds for table in lasting(two_days())], [{(0, 1): 0, (1, 0): 2}, {(0, 1): 0, (1, 0): 5}])
        three = River([day_of(0, 2, 9), day_of(0, 2, 9), day_of(4, 0, 9)])
        self.assertEqual([table.bounds[(1, 0)] for table in lasting(three)], [5, 7, 9])
        self.assertEqual([table.bounds[(0, 1)] for table in lasting(three)], [0, 0, 0])

    def test_nothing_lasts(self):
        for river in [River([day_of(2, 3, 5)]), River([day_of(2, 3, 10 ** 9)]), River([day_of(2, 2, -1)]),
                      River([day_of(1, 4, 5), day_of(2, 0, 5)]), River([day_of(2, 2, 5), day_of(2, 2, -1)])]:
            self.assertEqual(lasting(river), [nothing(1)] * len(river))
            self.assertIsNone(years_enough(river))
            for first in range(3):
                self.assertFalse(lasts(river, first, (0,)))

    def test_a_bound_that_falls_by_1_a_year(self):
        # 3 come in each year and 2 are let down, so that the greatest water that can be kept falls for ever.
        for mark in [7, 10 ** 6, MOST]:
            river = River([day_of(1, 3, mark), day_of(1, 0, mark)])
            self.assertEqual(lasting(river), [nothing(1), nothing(1)])
            even = River([day_of(1, 3, mark), day_of(2, 0, mark)])
            self.assertEqual([table.bounds[(1, 0)] for table in lasting(even)], [mark - 2, mark])

    def test_marks_without_bounds(self):
        day = day_of(2, 3, 5).with_marks(None)
        self.assertEqual(lasting(River([day])), [Table(1, {(0, 1): 0})])
        taken = day.with_takes([1])
        self.assertEqual(lasting(River([taken])), [nothing(1)])
        self.assertEqual(lasting(River([taken.with_rain(rain_between([1], [3]))])), [Table(1, {(0, 1): 0})])

    def test_against_many_years(self):
        choice = random.Random(100)
        seen = {}
        for _ in range(40):
            river = some_mild_river(choice)
            found = lasting(river)
            many = 60 * len(river)
            for at, table in enumerate(found):
                self.assertEqual(closed(table), table)
                if not is_empty(found[0]):
                    self.assertEqual(kept_for(river, at, many), table)
                    continue
                self.assertEqual(table, nothing(table.size))
                if not is_empty(kept_for(river, at, many)):
                    self.assertNotEqual(kept_for(river, at, many), kept_for(river, at, many - len(river)))
            self.assertTrue(is_lasting(river, found))
            self.assertTrue(is_lasting(river, tuple(found)))
            seen[is_empty(found[0])] = True
            for _ in range(3):
                first, water = choice.randint(0, 5), choice.choice(waters(len(cells_of(river.lags)), 0, 3))
                self.assertEqual(lasts(river, first, water), found[first % len(river)].fits(water))
                if lasts(river, first, water):
                    self.assertTrue(can_keep(river, first, first + 39, water))
        self.assertEqual(len(seen), 2)

    def test_lists_are_new(self):
        river = two_days()
        lasting(river).clear()
        self.assertEqual(len(lasting(river=river)), 2)

    def test_lasts(self):
        river = two_days()
        self.assertEqual([lasts(river, first, (number,)) for first in (0, 1, 10 ** 7, 10 ** 7 - 1) for number in (2, 3, 5, 6)],
                         [True, False, False, False, True, True, True, False] * 2)
        self.assertIs(lasts(river=river, first=0, water=(-1,)), False)

    def test_errors(self):
        river = two_days()
        for call, more in [(lasting, []), (lasts, [None, None]), (is_lasting, [None]), (years_enough, []),
                           (failing_day, [None] * 3), (turned, [None])]:
            for thing in [None, (), river.days, river.day_on(0), 0, "river"]:
                with self.assertRaises(BadRiver):
                    call(thing, *more)
        for number in NUMBERS:
            with self.assertRaises(BadNumber):
                lasts(river, number, None)
            with self.assertRaises(BadNumber):
                failing_day(river, number, None, None)
            with self.assertRaises(BadNumber):
                turned(river, number)
            with self.assertRaises(BadNumber):
                failing_day(river, 0, (0,), number)
        for water in [None, (), (1, 2), [1], (True,)]:
            with self.assertRaises(BadWater):
                lasts(river, 0, water)
            with self.assertRaises(BadWater):
                failing_day(river, 0, water, None)


class IsLastingTest(unittest.TestCase):
    def test_narrowed_and_widened(self):
        river = two_days()
        first, second = lasting(river)
        narrow = both(first, Table(1, {(1, 0): 1}))
        for thing, told in [([first, second], True), ([narrow, second], False), ([narrow, Table(1, {(1, 0): 4, (0, 1): 0})], True),
                            ([first, Table(1, {(1, 0): 6, (0, 1): 0})], False), ([Table(1, {(1, 0): 3, (0, 1): 0}), second], False),
                            ([first, Table(1, {(1, 0): 5})], False), ([Table(1, {(1, 0): 2}), second], False),
                            ([second, first], False), ([Table(1), Table(1)], False),
                            ([Table(1, {(1, 0): 0, (0, 1): 0}), Table(1, {(1, 0): 3, (0, 1): 0})], True),
                            ([Table(1, {(1, 0): 0, (0, 1): 0}), Table(1, {(1, 0): 2, (0, 1): 0})], False)]:
            self.assertIs(is_lasting(river, thing), told, [table.bounds for table in thing])
            self.assertIs(is_lasting(river=river, thing=tuple(thing)), told)

    def test_what_is_not_closed(self):
        day = Day([0, 0], [(0, 1), (0, 1)], rain_between([0, 0], [0, 0]), None, Table(2, {(2, 0): 5}))
        river = River([day])
        for bounds in [{(0, 1): 0, (1, 2): 0, (2, 0): 5}, {(0, 1): 0, (1, 2): 0, (2, 0): 5, (1, 0): 99, (0, 2): 7}]:
            self.assertIs(is_lasting(river, [Table(2, bounds)]), True)
        for bounds in [{(0, 1): 0, (1, 2): 0, (2, 0): 8}, {(0, 1): 0, (1, 2): 1, (2, 0): 5}]:
            self.assertIs(is_lasting(river, [Table(2, bounds)]), False)

    def test_empty_ones(self):
        river = two_days()
        void = Table(1, {(1, 0): -5, (0, 1): 0})
        first, second = lasting(river)
        for thing, told in [([void, void], True), ([nothing(1), void], True), ([void, second], False), ([first, void], False),
                            ([second, void], False), ([void, Table(1, {(1, 0): 5, (0, 1): -6})], True)]:
            self.assertIs(is_lasting(river, thing), told)
        self.assertIs(is_lasting(River([day_of(2, 3, 5)]), [nothing(1)]), True)
        self.assertIs(is_lasting(River([day_of(2, 3, 5)]), [Table(1, {(1, 0): 5, (0, 1): 0})]), False)

    def test_against_the_words(self):
        choice = random.Random(101)
        seen = {}
        for _ in range(150):
            river = some_mild_river(choice)
            thing = []
            for table in lasting(river):
                bounds = table.bounds
                for pair in sorted(bounds):
                    if choice.random() < 0.15:
                        bounds[pair] += choice.choice([-1, 1])
                thing.append(Table(table.size, bounds))
            told = all(is_within(table, before(day, both(day.sound, following)))
                       for day, table, following in zip(river.days, thing, thing[1:] + thing[:1]))
            self.assertIs(is_lasting(river, thing), told)
            seen[(told, thing == lasting(river))] = True
        self.assertEqual(len(seen), 3)

    def test_any_value(self):
        river = one_day()
        table = lasting(river)[0]
        for thing in [*any_values(), [table, table], table, {0: table}, [Table(2)], [nothing(2)], [None], [table.bounds], [[table]],
                      [(table,)]]:
            self.assertIs(is_lasting(river, thing), False, thing)
        two = two_days()
        for thing in [[lasting(two)[0], None], [None, lasting(two)[1]], [lasting(two)[0], Table(2)]]:
            self.assertIs(is_lasting(two, thing), False)
        self.assertIs(is_lasting(two, lasting(two) + lasting(two)), False)
        self.assertIs(is_lasting(two, lasting(two)[:1]), False)


class YearsTest(unittest.TestCase):
    def test_years(self):
        self.assertEqual(years_enough(one_day()), 1)
        self.assertEqual(years_enough(river=two_days()), 1)
        free = River([day_of(2, 2, 5).with_marks(None)])
        self.assertEqual(years_enough(free), 1)
        # What is let down on the second day of the year must have come on its first one.
        self.assertEqual(years_enough(River([day_of(0, 1, 9), day_of(1, 0, 9)])), 1)

    def test_many_years(self):
        # What is on its way comes to the lower place, which is shut, in as many days as the lag tells.
        for lag in range(4):
            marks = Table(lag + 2, {(lag + 2, lag + 1): 3})
            day = Day([lag, 0], [(0, 0), (0, 0)], rain_between([0, 0], [0, 0]), None, marks)
            self.assertEqual(years_enough(River([day])), max(1, lag))
            self.assertEqual(years_enough(River([day, day])), max(1, (lag + 1) // 2))

    def test_a_later_day_of_the_year_only(self):
        choice = random.Random(102)
        later = 0
        for _ in range(120):
            river = some_mild_river(choice)
            found = years_enough(river)
            tables = lasting(river)
            if is_empty(tables[0]):
                self.assertIsNone(found)
                continue
            needed = []
            for at, table in enumerate(tables):
                many = 1
                while not is_within(kept_for(river, at, many * len(river)), table):
                    many += 1
                needed.append(many)
            self.assertEqual(found, max(needed))
            later += needed[0] < max(needed)
        self.assertGreater(later, 2)


class FailingTest(unittest.TestCase):
    def test_days(self):
        river = River([day_of(2, 3, 5)])
        for number, day in [(6, 0), (5, 0), (4, 1), (3, 2), (2, 3), (0, 5), (-1, 0)]:
            self.assertEqual(failing_day(river, 0, (number,), 400), day)
            self.assertEqual([last for last in range(40) if not can_keep(river, 0, last, (number,))][0], day)

    def test_ends(self):
        river = River([day_of(2, 3, 5)])
        self.assertIsNone(failing_day(river, 0, (0,), 4))
        self.assertEqual(failing_day(river, 0, (0,), 5), 5)
        self.assertEqual(failing_day(river, 0, (0,), 6), 5)
        self.assertIsNone(failing_day(river, 0, (4,), 0))
        self.assertEqual(failing_day(river, 0, (7,), 0), 0)
        slow = River([day_of(2, 3, 402)])
        self.assertIsNone(failing_day(slow, 0, (2,), 399))
        self.assertEqual(failing_day(slow, 0, (2,), 400), 400)
        self.assertIsNone(failing_day(slow, 0, (1,), 400))
        self.assertIsNone(failing_day(one_day(), 0, (5,), 400))
        for most in [401, 10 ** 6]:
            with self.assertRaises(BadNumber):
                failing_day(slow, 0, (2,), most)

    def test_far_first_days(self):
        river = River([day_of(2, 3, 5), day_of(2, 3, 4)])
        for first in [10 ** 7, 10 ** 7 - 1]:
            near = failing_day(river, first % 2, (1,), 40)
            self.assertEqual(failing_day(river=river, first=first, water=(1,), most=40), first - first % 2 + near)

    def test_against_each_last_day(self):
        choice = random.Random(103)
        seen = {}
        for _ in range(60):
            river = some_mild_river(choice)
            first, most = choice.randint(0, 4), choice.randint(0, 9)
            water = choice.choice(waters(len(cells_of(river.lags)), 0, 3))
            bad = [last for last in range(first, first + most + 1) if not can_keep(river, first, last, water)]
            found = failing_day(river, first, water, most)
            self.assertEqual(found, bad[0] if bad else None)
            seen[found is None or found - first] = True
        self.assertGreater(len(seen), 3)


class TurnedTest(unittest.TestCase):
    def test_numbers(self):
        days = [day_of(most, 1, 5) for most in range(3)]
        river = River(days)
        for number, order in [(0, [0, 1, 2]), (1, [1, 2, 0]), (2, [2, 0, 1]), (3, [0, 1, 2]), (10 ** 7, [1, 2, 0])]:
            self.assertEqual(turned(river, number), River([days[at] for at in order]))
        self.assertEqual(turned(river=River(days[:1]), number=7), River(days[:1]))
