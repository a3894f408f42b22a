"""Seen ahead: point 120."""

import random
import unittest
from itertools import product

from blindweirs.days import Day, River, rain_between
from blindweirs.errors import BadNumber, BadRiver, BadWater, NotPlain, TooMany
from blindweirs.kept import can_keep, tables
from blindweirs.nets import known
from blindweirs.seeing import can_see, seen_table, worth_of_seeing
from blindweirs.steps import evening, is_sound
from blindweirs.tables import Table, both, closed, is_within
from brute import all_releases, rows_of, some_river, waters

WRONG_STRETCHES = [(-1, 0), (True, 1), (None, 0), (0, -1), (2, 1), (0, True), (0, 40), (0, "1")]


def example():
    """The lower place must hold just 1 on the second evening, when the upper outlet is shut and 0 or 1 may come."""
    shut, dry = [(0, 0), (0, 0)], rain_between([0, 0], [0, 0])
    one = Day([0, 0], [(0, 1), (0, 0)], dry)
    two = Day([0, 0], shut, rain_between([0, 0], [0, 1]), None, Table(2, {(2, 1): 1, (1, 2): -1}))
    return River([one, two])


def long_example(between):
    """The same with so many calm days between both."""
    one, two = example().days
    calm = one.with_outlets([(0, 0), (0, 0)])
    return River([one] + [calm] * between + [two])


def tight_river(choice):
    """A river in which it matters now and then what is seen ahead."""
    if choice.random() < 0.5:
        days = long_example(choice.randint(0, 1)).days
        rain = rain_between([0, 0], [choice.randint(0, 1), 0])
        takes = [0, choice.randint(0, 1)]
        return River([days[0].with_rain(rain)] + [day.with_takes(takes) for day in days[1:-1]] + [days[-1]])
    lags = choice.choice([[0, 0], [0, 0], [1, 0], [0, 0, 0]])
    size, days = len(lags) + sum(lags), []
    for _ in range(choice.randint(2, 3)):
        outlets = [choice.choice([(0, 0), (0, 1), (0, 1), (0, 2), (0, None)]) for _ in lags]
        rain = rain_between([0] * len(lags), [choice.choice([0, 0, 1]) for _ in lags])
        bounds = {(cell + 1, cell): choice.randint(1, 3) for cell in range(size)}
        if choice.random() < 0.6:
            cell = choice.randrange(size)
            bounds[(cell, cell + 1)] = -1
        days.append(Day(lags, outlets, rain, None, Table(size, bounds)))
    return River(days)


def wins(river, number, last, water, rows, days, memo):
    """Whether the game is won from a water by somebody who knows these rows, one for each day from this one on."""
    if number > last:
        return True
    key = (number, water, rows)
    if key not in memo:
        day = river.day_on(number)
        further = number + days + 1
        shown = rows_of(river.day_on(further)) if further <= last else [None]
        lying = [evening(day, water, rows[0], told) for told in all_releases(day, water, rows[0])]
        memo[key] = any(
            all(wins(river, number + 1, last, left, rows[1:] + (() if row is None else (row,)), days, memo) for row in shown)
            for left in lying if is_sound(day, left))
    return memo[key]


def wins_all(river, first, last, water, days):
    ahead = [rows_of(river.day_on(number)) for number in range(first, min(first + days, last) + 1)]
    memo = {}
    return all(wins(river, first, last, water, rows, days, memo) for rows in product(*ahead))


def rain_of(many):
    """Rain at one place or more with so many corners, a power of 2."""
    wide = {1: 0, 2: 1, 4: 2, 8: 3, 16: 4, 32: 5}[many]
    return rain_between([1] * 5, [2] * wide + [1] * (5 - wide))


def river_with_corners(counts):
    return River([Day([0] * 5, [(0, None)] * 5, rain_of(many)) for many in counts])


class SeenTest(unittest.TestCase):
    def test_example(self):
        self.assertEqual((can_keep(example(), 0, 1, (1, 0)), worth_of_seeing(example(), 0, 1, (1, 0))), (False, 1))
        self.assertEqual([can_see(example(), 0, 1, (1, 0), days) for days in (0, 1, 2, 39, 40)], [False] + [True] * 4)

    def test_days_between(self):
        for between in range(4):
            river, last = long_example(between), between + 1
            self.assertEqual([can_see(river, 0, last, (1, 0), days) for days in range(last + 2)],
                             [False] * last + [True, True])
            self.assertEqual(worth_of_seeing(river, 0, last, (1, 0)), last)
            self.assertIsNone(worth_of_seeing(river, 0, last, (0, 0)))
            self.assertIsNone(worth_of_seeing(river, 1, last, (1, 0)))
            self.assertEqual(worth_of_seeing(river, 0, last - 1, (1, 0)), 0)
            self.assertEqual(worth_of_seeing(river=river, first=0, last=0, water=(0, 5)), 0)

    def test_tables(self):
        self.assertEqual(seen_table(example(), 0, 1, 0), tables(example(), 0, 1)[0][0])
        self.assertEqual(seen_table(river=example(), first=0, last=1, days=1), seen_table(example(), 0, 1, 40))
        found = seen_table(example(), 0, 1, 1)
        fit = [water for water in waters(2, -1, 3) if found.fits(water)]
        self.assertEqual(fit, [(1, 0), (2, 0), (3, 0)])

    def test_against_the_game(self):
        choice = random.Random(120)
        seen = {}
        for _ in range(150):
            river = tight_river(choice)
            first = choice.randint(0, 1)
            last = first + choice.randint(0, 2)
            size = river.day_on(0).marks.size
            try:
                found = [seen_table(river, first, last, days) for days in range(last - first + 2)]
            except TooMany:
                continue
            for water in choice.sample(waters(size, 0, 2), 3):
                told = tuple(table.fits(water) for table in found[:-1])
                self.assertEqual(told, tuple(wins_all(river, first, last, water, days) for days in range(last - first + 1)))
                worth = told.index(True) if True in told else None
                self.assertEqual(worth_of_seeing(river, first, last, water), worth)
                self.assertEqual(tuple(can_see(river, first, last, water, days) for days in range(last - first + 1)), told)
                seen[told] = seen.get(told, 0) + 1
        self.assertGreater(min(seen[(False, True)], seen[(True, True)], seen[(False, False)]), 1)
        self.assertGreater(seen[(False, False, True)], 0)

    def test_the_facts(self):
        choice = random.Random(121)
        many = 0
        while many < 60:
            river = tight_river(choice) if many % 2 else some_river(choice)
            first = choice.randint(0, 1)
            last = first + choice.randint(0, 2)
            try:
                found = [seen_table(river, first, last, days) for days in range(last - first + 3)]
            except (TooMany, NotPlain):
                continue
            self.assertEqual(found[0], tables(river, first, last)[0][0])
            for less, more in zip(found, found[1:]):
                self.assertTrue(is_within(less, more))
            self.assertEqual(found[last - first:], [found[last - first]] * 3)
            for table in found:
                self.assertEqual(closed(table), table)
            rows = [rows_of(river.day_on(number)) for number in range(first, last + 1)]
            water = choice.choice(waters(found[0].size, 0, 2))
            self.assertEqual(found[-1].fits(water), all(known(river, first, list(told), water) for told in product(*rows)))
            many += 1

    def test_wide_rain(self):
        # Only the corners are looked at, however far apart they are.
        far = 10 ** 11
        day = Day([0], [(0, far)], rain_between([0], [far]), None, Table(1, {(1, 0): far}))
        river = River([day])
        for days in range(3):
            self.assertEqual(seen_table(river, 0, 2, days), Table(1, {(0, 1): 0, (1, 0): far}))


class NotPlainTest(unittest.TestCase):
    def test_the_first_day(self):
        plain = Day([0, 0], [(0, 1), (0, 1)], rain_between([0, 0], [1, 1]))
        linked = plain.with_rain(both(rain_between([0, 0], [1, 1]), Table(2, {(2, 0): 1})))
        idle = plain.with_rain(both(rain_between([0, 0], [1, 1]), Table(2, {(2, 0): 2, (0, 2): 0, (1, 0): 7})))
        for days, first, last, day in [([linked], 0, 0, 0), ([linked], 9, 9, 9), ([plain, linked], 0, 1, 1),
                                       ([plain, linked], 2, 5, 3), ([plain, linked, linked], 3, 5, 4), ([linked, plain], 1, 3, 2)]:
            river = River(days)
            for call, told in [(seen_table, [0]), (can_see, [(0, 0), 0]), (can_see, [(0, 0), 40]), (worth_of_seeing, [(0, 0)])]:
                with self.assertRaises(NotPlain) as caught:
                    call(river, first, last, *told)
                self.assertEqual(caught.exception.day, day)
        self.assertEqual(seen_table(River([linked, plain]), 1, 1, 0), seen_table(River([plain]), 1, 1, 0))
        self.assertEqual(seen_table(River([idle]), 0, 2, 1), seen_table(River([plain]), 0, 2, 1))

    def test_behind_the_errors_of_parameters(self):
        linked = River([Day([0, 0], [(0, 1), (0, 1)], both(rain_between([0, 0], [1, 1]), Table(2, {(2, 0): 1})))])
        with self.assertRaises(BadNumber):
            seen_table(linked, 0, 0, 41)
        with self.assertRaises(BadWater):
            can_see(linked, 0, 0, (0,), 0)
        with self.assertRaises(BadNumber):
            can_see(linked, 0, 0, (0, 0), -1)
        with self.assertRaises(BadWater):
            worth_of_seeing(linked, 0, 0, (0,))


class TooManyTest(unittest.TestCase):
    def fails(self, river, first, last, days):
        size = len(river.lags)
        for call, told in [(seen_table, [days]), (can_see, [(0,) * size, days])]:
            with self.assertRaises(TooMany) as caught:
                call(river, first, last, *told)
            self.assertEqual(caught.exception.most, 64)

    def test_days_one_behind_the_other(self):
        river = river_with_corners([8, 8, 2, 4, 4, 4])
        self.assertEqual(seen_table(river, 0, 5, 0), tables(river, 0, 5)[0][0])
        seen_table(river, 0, 5, 1)
        self.fails(river, 0, 5, 2)
        seen_table(river, 1, 4, 2)
        seen_table(river, 3, 5, 2)
        seen_table(river, 3, 5, 40)
        self.fails(river, 2, 5, 3)
        self.fails(river, 2, 5, 40)
        self.fails(river, 0, 2, 2)
        self.fails(river, 3, 6, 3)

    def test_at_the_limit(self):
        for counts, last in [([32, 2], 1), ([8, 8], 1), ([1, 32, 1, 2], 3), ([2] * 6, 5), ([1] * 40, 39)]:
            seen_table(river_with_corners(counts), 0, last, 40)
        for counts, last in [([32, 4], 1), ([8, 16], 1), ([2] * 7, 6), ([1, 32, 1, 4], 3)]:
            self.fails(river_with_corners(counts), 0, last, 40)
            with self.assertRaises(TooMany):
                worth_of_seeing(river_with_corners(counts), 0, last, (0,) * 5)
        seen_table(river_with_corners([2] * 7), 0, 6, 5)

    def test_worth_by_all_days(self):
        river = river_with_corners([2] * 7)
        self.assertEqual(worth_of_seeing(river, 0, 5, (0,) * 5), 0)
        with self.assertRaises(TooMany) as caught:
            worth_of_seeing(river, 0, 6, (0,) * 5)
        self.assertEqual(caught.exception.most, 64)

    def test_not_plain_comes_first(self):
        day = river_with_corners([32]).day_on(0)
        linked = day.with_rain(both(day.rain, Table(5, {(5, 0): 8})))
        for call, told in [(seen_table, [3]), (can_see, [(0,) * 5, 3]), (worth_of_seeing, [(0,) * 5])]:
            with self.assertRaises(NotPlain) as caught:
                call(River([day, day, day, linked]), 0, 3, *told)
            self.assertEqual(caught.exception.day, 3)


class ErrorsTest(unittest.TestCase):
    def test_order(self):
        river = river_with_corners([32])
        for call, more in [(seen_table, 1), (can_see, 2), (worth_of_seeing, 1)]:
            for thing in [None, (), river.days, 0]:
                with self.assertRaises(BadRiver):
                    call(thing, None, None, *[None] * more)
            for first, last in WRONG_STRETCHES:
                for told in [None, (0,) * 5]:
                    with self.assertRaises(BadNumber):
                        call(river, first, last, *[told] * more)
        for water in [None, (), (1,) * 4, [1] * 5, (1, 1, 1, 1, True), (1,) * 6]:
            with self.assertRaises(BadWater):
                can_see(river, 0, 1, water, None)
            with self.assertRaises(BadWater):
                worth_of_seeing(river, 0, 1, water)
        for days in [None, -1, 41, True, False, "0", (0,)]:
            with self.assertRaises(BadNumber):
                seen_table(river, 0, 1, days)
            with self.assertRaises(BadNumber):
                can_see(river, 0, 1, (0,) * 5, days)
        self.assertIs(can_see(river=river, first=0, last=1, water=(0,) * 5, days=0), True)
