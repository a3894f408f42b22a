"""What a day does: point 30."""

import random
import unittest

from blindweirs.days import Day, River, rain_between
from blindweirs.errors import (BadDay, BadNumber, BadReleases, BadRiver, BadRow, BadRows, BadWater)
from blindweirs.steps import broken, evening, first_unsound, is_sound, walk
from blindweirs.tables import Table, sums
from brute import all_releases, any_values, rows_of, some_river, waters

WRONG_WATERS = [None, (), (1,), (1, 2), (1, 2, 3, 4), [1, 2, 3], (1, 2, True), (1, 2, None), "123", {}, Table(3)]


class EveningTest(unittest.TestCase):
    def test_lag_nothing_through_several_places_in_one_day(self):
        day = Day([0, 0, 0], [(0, 9)] * 3, rain_between([0] * 3, [5] * 3), [0, 1, 0])
        self.assertEqual(evening(day, (4, 0, 0), (1, 0, 2), [5, 4, 6]), (0, 0, 0))
        self.assertEqual(evening(day, (4, 0, 0), (0, 0, 0), (1, 2, 3)), (3, -2, -1))

    def test_ways_of_one_to_three_days(self):
        for lag in [1, 2, 3]:
            day = Day([lag, 0], [(0, 9), (0, 9)], rain_between([0, 0], [5, 5]), [1, 2])
            way = tuple(range(20, 20 + lag))
            found = evening(day=day, water=(10, *way, 30), row=(3, 5), releases=[7, 8])
            self.assertEqual(found, (10 + 3 - 1 - 7, 7, *way[:-1], 30 + 5 - 2 - 8 + way[-1]))

    def test_a_mixed_river(self):
        day = Day([0, 2, 0], [(0, 9)] * 3, rain_between([1] * 3, [1] * 3))
        self.assertEqual(evening(day, (1, 2, 3, 4, 5), (1, 1, 1), [1, 2, 3]), (1, 2, 2, 3, 7))

    def test_numbers_below_zero_and_no_greatest_release(self):
        day = Day([0], [(1, None)], rain_between([0], [2]))
        self.assertEqual(evening(day, (-3,), (2,), [10 ** 12]), (-1 - 10 ** 12,))
        self.assertEqual(evening(day, (-3,), (0,), [1]), (-4,))

    def test_ends_of_an_outlet(self):
        day = Day([0, 0], [(1, 3), (0, None)], rain_between([0, 0], [0, 0]))
        for releases in [[1, 0], [3, 0], (2, 10 ** 9)]:
            found = (10 - releases[0], 10 + releases[0] - releases[1])
            self.assertEqual(evening(day, (10, 10), (0, 0), releases), found)
        wrong = [[0, 0], [4, 0], [1, -1], [1], [1, 0, 0], [], [True, 0], [1, False], [1, None], ["1", 0], None, 1,
                 {0: 1, 1: 0}, "10", Table(2), [[1, 0]]]
        for releases in [*wrong, *any_values()]:
            with self.assertRaises(BadReleases):
                evening(day, (10, 10), (0, 0), releases)

    def test_rows_that_are_none(self):
        day = Day([0, 0], [(0, 1), (0, 1)], Table(2, {(2, 0): 2, (0, 1): 0, (1, 2): -1}))
        self.assertEqual(evening(day, (0, 0), (1, 1), [0, 0]), (1, 1))
        for row in [(0, 0), (0, 3), (2, 1), (-1, 2), (1,), (1, 1, 0), (), [1, 1], (True, 1), None, {}, "11", Table(2)]:
            with self.assertRaises(BadRow):
                evening(day, (0, 0), row, None)

    def test_sums_in_the_evening(self):
        choice = random.Random(1)
        for _ in range(40):
            river = some_river(choice)
            day = river.day_on(0)
            water = tuple(choice.randint(-1, 3) for _ in range(day.marks.size))
            row = choice.choice(rows_of(day))
            told = choice.choice(all_releases(day, water, row))
            left = sum(water) + sum(row) - sum(day.takes) - told[-1]
            self.assertEqual(sum(evening(day, water, row, told)), left)

    def test_order_of_errors(self):
        day = Day([1, 0], [(0, 1), (0, 1)], rain_between([0, 0], [0, 0]))
        for thing in [None, (), River([day]), True]:
            with self.assertRaises(BadDay) as caught:
                evening(thing, None, None, None)
            self.assertIsNone(caught.exception.part)
        for water in WRONG_WATERS:
            with self.assertRaises(BadWater):
                evening(day, water, None, None)


class SoundTest(unittest.TestCase):
    def setUp(self):
        self.day = Day([1, 0], [(0, 1), (0, 1)], rain_between([0, 0], [0, 0]), None,
                       Table(3, {(1, 0): 3, (3, 0): 5, (0, 3): -1, (1, 2): 0}))

    def test_is_sound_and_broken(self):
        self.assertIs(is_sound(self.day, (1, 0, 0)), True)
        self.assertIs(is_sound(self.day, (3, 1, 1)), True)
        self.assertEqual(broken(self.day, (3, 1, 1)), [])
        told = [((4, 0, 0), [(1, 0)]), ((0, 0, 0), [(0, 3)]), ((4, 0, 2), [(1, 0), (3, 0)]),
                ((1, -1, 1), [(1, 2)]), ((1, 1, -1), [(2, 3)]), ((-1, -1, -1), [(0, 1), (0, 3), (1, 2), (2, 3)]),
                ((5, -1, 9), [(1, 0), (1, 2), (3, 0)])]
        for water, pairs in told:
            self.assertIs(is_sound(self.day, water), False)
            self.assertEqual(broken(day=self.day, water=water), pairs)

    def test_sound_exactly_if_nothing_is_broken(self):
        choice = random.Random(2)
        for _ in range(20):
            day = some_river(choice).day_on(0)
            for water in choice.sample(waters(day.marks.size, -1, 3), 5):
                heights = sums(water)
                pairs = {(a, b) for (a, b), most in day.marks.bounds.items() if heights[a] - heights[b] > most}
                pairs.update((cell, cell + 1) for cell, number in enumerate(water) if number < 0)
                self.assertEqual(broken(day, water), sorted(pairs))
                self.assertEqual(is_sound(day, water), not pairs)

    def test_errors(self):
        for function in [is_sound, broken]:
            with self.assertRaises(BadDay) as caught:
                function(None, None)
            self.assertIsNone(caught.exception.part)
            for water in WRONG_WATERS:
                with self.assertRaises(BadWater):
                    function(self.day, water)


class WalkTest(unittest.TestCase):
    def setUp(self):
        wet = Day([1, 0], [(0, 2), (0, None)], rain_between([0, 0], [2, 2]), None, Table(3, {(1, 0): 4}))
        dry = Day([1, 0], [(0, 2), (0, 0)], rain_between([0, 0], [0, 0]), [1, 0])
        self.river = River([wet, dry])

    def test_walk(self):
        rows, releases = [(2, 1), (0, 0), (1, 0)], [[1, 0], [2, 0], (0, 3)]
        found = walk(self.river, 0, (3, 0, 0), rows, releases)
        self.assertEqual(found, [(4, 1, 1), (1, 2, 2), (2, 0, 1)])
        self.assertEqual(walk(self.river, 4, (3, 0, 0), tuple(rows), tuple(releases)), found)
        self.assertIsNone(first_unsound(self.river, 0, (3, 0, 0), rows, releases))
        lying = (3, 0, 0)
        for at, row in enumerate(rows):
            lying = evening(self.river.day_on(at), lying, row, releases[at])
            self.assertEqual(found[at], lying)

    def test_no_rows(self):
        self.assertEqual(walk(self.river, 5, (0, 0, 0), [], ()), [])
        self.assertIsNone(first_unsound(self.river, 5, (0, 0, 0), (), []))

    def test_first_unsound(self):
        self.assertEqual(first_unsound(self.river, 0, (3, 0, 0), [(2, 0)], [[0, 0]]), 0)
        self.assertEqual(first_unsound(self.river, 1, (3, 0, 0), [(0, 0), (1, 0)], [[2, 0], [0, 9]]), 1)
        self.assertEqual(first_unsound(river=self.river, first=1, water=(0, 0, 0), rows=[(0, 0), (1, 0)],
                                       releases=[[0, 0], [0, 0]]), 0)
        # Unsound on the first evening, sound again on the second one.
        self.assertEqual(first_unsound(self.river, 0, (4, 0, 0), [(1, 0), (0, 0)], [[0, 0], [0, 0]]), 0)

    def test_rows(self):
        water = (9, 9, 9)
        self.assertEqual(len(walk(self.river, 10 ** 7, water, [(0, 0)] * 40, [[0, 0]] * 40)), 40)
        for rows in [None, [(0, 0)] * 41, {}, "", 0, {0: (0, 0)}, Table(2)]:
            with self.assertRaises(BadRows) as caught:
                walk(self.river, 0, water, rows, None)
            self.assertIsNone(caught.exception.at)
        for rows, at in [([[0, 0]], 0), ([(3, 0)], 0), ([(2, 2), (0, 1)], 1), ([(0, 0), (0, 0), None], 2),
                         ([(0,)], 0), ([(0, True)], 0), ((0, 0), 0), ([(1, 1), (1, 1)], 1)]:
            for function in [walk, first_unsound]:
                with self.assertRaises(BadRows) as caught:
                    function(self.river, 0, water, rows, None)
                self.assertEqual(caught.exception.at, at)
        with self.assertRaises(BadRows) as caught:
            walk(self.river, 1, water, [(1, 0)], None)
        self.assertEqual(caught.exception.at, 0)

    def test_releases(self):
        rows = [(0, 0), (0, 0)]
        for releases in [None, [], [[0, 0]], [[0, 0]] * 3, [[0, 0], [0, 1]], [[3, 0], [0, 0]], [[0, 0], None], {},
                         [[0, 0], [0]], [[0, 0], [0, False]], "ab", [0, 0]]:
            for function in [walk, first_unsound]:
                with self.assertRaises(BadReleases):
                    function(self.river, 0, (0, 0, 0), rows, releases)
        with self.assertRaises(BadReleases):
            walk(self.river, 0, (0, 0, 0), [], [[0, 0]])

    def test_order_of_errors(self):
        for function in [walk, first_unsound]:
            for thing in [None, self.river.day_on(0), [self.river.day_on(0)]]:
                with self.assertRaises(BadRiver):
                    function(thing, None, None, None, None)
            for first in [None, -1, True, "0", (0,)]:
                with self.assertRaises(BadNumber):
                    function(self.river, first, None, None, None)
            for water in WRONG_WATERS:
                with self.assertRaises(BadWater):
                    function(self.river, 0, water, None, None)
