"""Turbines: points 130 and 131."""

import random
import unittest

from blindweirs.days import Day, River, point_of, rain_between
from blindweirs.errors import (BadNumber, BadPrices, BadReleases, BadRiver, BadRow, BadRows, BadWater, TooMany)
from blindweirs.kept import can_keep, is_keeping, releases_for
from blindweirs.nets import known_plan, net
from blindweirs.power import dearest, dearest_plan, led_day_by_day, safe_day, shown, worths, yielded
from blindweirs.steps import evening, first_unsound
from blindweirs.tables import Table, sums
from brute import all_releases, all_that_keep, any_values, highest_of, rows_of, some_known

KNOWN = [(dearest, []), (dearest_plan, []), (worths, []), (led_day_by_day, []), (shown, [None])]
NO_PRICES = [None, 0, "1", {}, {0: 1}, (None,), [None], ["1"], [True], [[1]], [(1,)]]


def plain_river():
    return River([Day([0], [(0, 2)], rain_between([0], [3]), None, Table(1, {(1, 0): 5}))])


def two_places():
    return River([Day([1, 0], [(0, 2), (0, 2)], rain_between([0, 0], [2, 2]), None,
                      Table(3, {(1, 0): 4, (3, 2): 4}))])


def wide_river(lags):
    places = len(lags)
    return River([Day(lags, [(0, 1)] * places, rain_between([0] * places, [1] * places))])


def some_prices(choice, days, places):
    return [[choice.choice([0, choice.randint(-3, 3), choice.randint(-10 ** 12, 10 ** 12)]) for _ in range(places)]
            for _ in range(days)]


class YieldedTest(unittest.TestCase):
    def test_sums(self):
        self.assertEqual(yielded([[2]], [[3]]), 6)
        self.assertEqual(yielded([[2, -1], [0, 10 ** 12]], [(3, 4), (5, 6)]), 6 - 4 + 6 * 10 ** 12)
        self.assertEqual(yielded(prices=((2,), [3]), releases=([5], (-7,))), -11)
        self.assertEqual(yielded([[1] * 9] * 50, [[1] * 9] * 50), 450)

    def test_prices(self):
        for prices in [None, 0, "", "1", {}, {0: [1]}, [], (), [[]], [(), ()], [1], [[1], 2], [[1], [1, 2]], [[1, 2], [1]],
                       [[1], []], [[], [1]], [[True]], [[None]], [["1"]], [[[1]]], [{0: 1}], ["1"], [None], [[1], [1], [None]]]:
            with self.assertRaises(BadPrices):
                yielded(prices, None)

    def test_releases(self):
        for releases in [None, 0, "", {}, [], [[1, 2]], [[1, 2], [3]], [[1], [2]], [[1, 2], [3, 4], [5, 6]], [[1, 2], [3, True]],
                         [[1, 2], [3, None]], [1, 2], [[1, 2], "34"], [[1, 2], {0: 1, 1: 2}], [[1, 2, 3], [4, 5, 6]]]:
            with self.assertRaises(BadReleases):
                yielded([[1, 2], [3, 4]], releases)


class DearestTest(unittest.TestCase):
    def test_one_reservoir(self):
        river = plain_river()
        rows = [(3,), (0,), (1,)]
        for prices, most, plan in [([[1], [2], [3]], 12, [(2,), (2,), (2,)]), ([[-1], [2], [3]], 10, [(0,), (2,), (2,)]),
                                   ([[0], [0], [0]], 0, [(0,), (0,), (1,)]), ([[-5], [-1], [-2]], -1, [(0,), (1,), (0,)])]:
            self.assertEqual(dearest(river, 0, rows, (2,), prices), most)
            self.assertEqual(dearest_plan(river, 0, rows, (2,), prices), plan)
        self.assertEqual(dearest(river, 0, [(3,)], (4,), [[-7]]), -14)
        self.assertIsNone(dearest(river, 0, [(3,)], (5,), [[1]]))
        self.assertIsNone(dearest_plan(river, 0, [(3,)], (5,), [[1]]))
        self.assertIsNone(worths(river, 0, [(3,)], (5,), [[1]]))

    def test_the_highest_evenings_of_several(self):
        river = plain_river()
        self.assertEqual(dearest_plan(river, 0, [(2,), (0,), (0,)], (3,), [[1], [1], [1]]), [(1,), (2,), (2,)])
        self.assertEqual(dearest_plan(river, 0, [(0,), (0,), (0,)], (3,), [[1], [1], [1]]), [(0,), (1,), (2,)])
        self.assertEqual(dearest_plan(river, 0, [(0,), (0,), (0,)], (3,), [[0], [0], [0]]), [(0,), (0,), (0,)])
        self.assertEqual(dearest_plan(river, 0, [(0,), (0,)], (3,), [[0], [-1]]), [(0,), (0,)])
        self.assertEqual(dearest_plan(river, 0, [(0,), (0,)], (3,), [[2], [1]]), [(2,), (1,)])
        free = River([plain_river().day_on(0).with_outlets([(0, None)])])
        self.assertEqual(dearest_plan(free, 0, [(0,), (3,)], (3,), [[4], [4]]), [(0,), (6,)])

    def test_without_prices_it_is_the_known_plan(self):
        choice = random.Random(130)
        for _ in range(100):
            told = some_known(choice)
            prices = [[0] * len(told[0].lags) for _ in told[2]]
            self.assertEqual(dearest_plan(*told, prices), known_plan(*told))

    def test_against_trying_all_releases(self):
        choice = random.Random(131)
        seen = {}
        for _ in range(300):
            told = some_known(choice)
            river, first, rows, water = told
            prices = some_prices(choice, len(rows), len(river.lags))
            found = all_that_keep(*told)
            seen[bool(found)] = True
            if not found:
                self.assertIsNone(dearest(*told, prices))
                self.assertIsNone(dearest_plan(*told, prices))
                self.assertIsNone(worths(*told, prices))
                continue
            most = max(yielded(prices, plan) for plan, _ in found)
            self.assertEqual(dearest(*told, prices), most)
            best = [one for one in found if yielded(prices, one[0]) == most]
            plan = dearest_plan(*told, prices)
            self.assertEqual(plan, highest_of(best))
            self.assertIsInstance(plan, list)
            self.assertTrue(all(isinstance(releases, tuple) for releases in plan))
            self.assertEqual(shown(*told, prices, worths(*told, prices)), most)
        self.assertEqual(len(seen), 2)

    def test_large_rivers(self):
        choice = random.Random(132)
        kept = 0
        while kept < 24:
            lags = choice.choice([[1, 1, 1, 0, 0], [0, 0, 0, 0, 0], [3, 0, 0, 0], [2, 2, 0, 0], [0, 3, 0, 0, 0]])
            places, size = len(lags), len(lags) + sum(lags)
            days = []
            for _ in range(choice.choice([1, 3, 12])):
                marks = Table(size, {(cell + 1, cell): choice.randint(5, 10 ** choice.randint(1, 9)) for cell in range(size)})
                outlets = [(0, choice.choice([None, choice.randint(10, 10 ** 9)])) for _ in lags]
                days.append(Day(lags, outlets, rain_between([0] * places, [10 ** 6] * places), None, marks))
            river = River(days)
            rows = [tuple(choice.randint(0, 10 ** choice.randint(0, 4)) for _ in lags) for _ in range(12)]
            water = tuple(choice.randint(0, 5) for _ in range(size))
            far = choice.choice([2, 5, 10 ** 12])
            prices = [[choice.randint(-far, far) for _ in lags] for _ in range(12)]
            most = dearest(river, 0, rows, water, prices)
            if most is None:
                continue
            kept += 1
            plan = dearest_plan(river, 0, rows, water, prices)
            self.assertIsNone(first_unsound(river, 0, water, rows, plan))
            # What worths show no releases pass: so both are as great as can be, and as small.
            self.assertEqual(yielded(prices, plan), most)
            self.assertEqual(shown(river, 0, rows, water, prices, worths(river, 0, rows, water, prices)), most)

    def test_errors(self):
        river = two_places()
        for call, more in KNOWN:
            for thing in [None, (), river.days]:
                with self.assertRaises(BadRiver):
                    call(thing, None, None, None, None, *more)
            for first in [None, -1, True, "0"]:
                with self.assertRaises(BadNumber):
                    call(river, first, None, None, None, *more)
            for rows, at in [(None, None), ([], None), ([(0, 0)] * 41, None), ([(0, 0), (0,)], 1), ([(0, 3)], 0)]:
                with self.assertRaises(BadRows) as caught:
                    call(river, 0, rows, None, None, *more)
                self.assertEqual(caught.exception.at, at)
            for water in [None, (), (1, 1), [1, 1, 1]]:
                with self.assertRaises(BadWater):
                    call(river, 0, [(0, 0)] * 2, water, None, *more)
            for prices in [*NO_PRICES, [], [[1, 1]], [[1, 1]] * 3, [[1, 1], [1]], [[1, 1], [1, 1, 1]], [[1, 1], [1, True]],
                           [[1, 1], [None, 1]], [[1, 1], "11"], [[1, 1], {0: 1, 1: 1}], [1, 1]]:
                with self.assertRaises(BadPrices):
                    call(river, 0, [(0, 0)] * 2, (1, 1, 1), prices, *more)
            call(river, 0, ((0, 0), (0, 0)), (1, 1, 1), ((1, -1), [10 ** 12, 0]), *more)

    def test_days_and_cells(self):
        small, great = wide_river([3, 1, 0, 0]), wide_river([3, 2, 0, 0])
        for call, more in KNOWN:
            call(small, 0, [(0, 0, 0, 0)] * 12, (0,) * 8, [[1] * 4] * 12, *more)
            for river, many, most in [(small, 13, 12), (great, 12, 8), (great, 13, 12), (great, 1, 8), (small, 40, 12)]:
                size = len(river.lags) + sum(river.lags)
                with self.assertRaises(TooMany) as caught:
                    call(river, 0, [(0, 0, 0, 0)] * many, (0,) * size, [[1] * 4] * many, *more)
                self.assertEqual(caught.exception.most, most)
                with self.assertRaises(BadPrices):
                    call(river, 0, [(0, 0, 0, 0)] * many, (0,) * size, [[1] * 4] * many + [[1] * 4], *more)
                with self.assertRaises(BadWater):
                    call(river, 0, [(0, 0, 0, 0)] * many, (0,) * (size + 1), None, *more)


class ShownTest(unittest.TestCase):
    def setUp(self):
        # Both days bring 1 for each unit, but on the second day 2: what lies there for a day more is worth 1.
        self.told = (plain_river(), 3, [(1,), (0,)], (2,), [[1], [2]])

    def test_by_hand(self):
        # To the sum 0 on both evenings lead the releases 3 and 0, which yield 3.
        bounds = net(*self.told[:4])
        one, two = (3, 1), (4, 1)
        self.assertEqual(bounds, {(0, one): -1, (0, two): 0, (one, 0): 3, (one, two): 2, (two, 0): 5, (two, one): 0})
        for thing, value in [({(one, 0): 1, (0, two): 2}, 3 + 3), ({(one, two): 1, (0, two): 1}, 3 + 2),
                             ({(one, 0): 2, (0, one): 1, (0, two): 2}, 3 + 6 - 1),
                             ({(one, two): 3, (two, one): 2, (0, two): 1}, 3 + 6), ({(one, two): 4, (0, two): 2, (two, 0): 4}, None),
                             ({(one, two): 1, (0, two): 3, (two, 0): 2}, 3 + 2 + 10)]:
            self.assertEqual(shown(*self.told, thing), value)
        self.assertEqual(shown(*self.told, worths(*self.told)), 5)
        self.assertEqual(dearest(*self.told), 5)

    def test_what_shows_nothing(self):
        one, two = (3, 1), (4, 1)
        good = {(one, two): 1, (0, two): 1}
        self.assertEqual(shown(*self.told, good), 5)
        wrong = [{}, {(one, two): 1}, {(one, two): 1, (0, two): 2}, {(one, two): 2, (0, two): 1}, {(one, two): 1, (0, two): 0},
                 {**good, (one, 0): 0}, {**good, (0, one): -1}, {(one, two): True, (0, two): 1}, {(one, two): "1", (0, two): 1},
                 {(one, two): None, (0, two): 1}, {(one, two): [1], (0, two): 1}, {(one, two): 1, (False, two): 1},
                 {(one, (4, True)): 1, (0, two): 1}, {(one, two, 0): 1, (0, two): 1}, {**good, one: 1}, {**good, 0: 1}, {**good, "x": 1},
                 {**good, (one, (5, 1)): 1}, {**good, (one, one): 1}, {**good, (0, 0): 1}, {**good, ((3, 0), one): 1}, {**good, (1, one): 1},
                 {(one, two): 1, ((2, 1), two): 1}, {**good, (one, (3, 2)): 1}, {**good, (None, one): 1}, {**good, (): 1},
                 {**good, ("0", one): 1}, {**good, (((3,), 1), one): 1}, list(good.items()), tuple(good), [good], good.keys(), 5]
        for thing in [*wrong, *any_values()]:
            self.assertIsNone(shown(*self.told, thing), thing)

    def test_nodes_with_true(self):
        told = (plain_river(), 0, [(1,), (0,)], (2,), [[1], [2]])
        self.assertEqual(shown(*told, {((0, 1), (1, 1)): 1, (0, (1, 1)): 1}), 5)
        self.assertEqual(shown(*told, {(0, (1, 1)): 1, ((0, 1), (1, 1)): 1}), 5)
        for thing in [{((False, 1), (1, 1)): 1, (0, (1, 1)): 1}, {((0, True), (1, 1)): 1, (0, (1, 1)): 1},
                      {((0, 1), (True, 1)): 1, (0, (1, 1)): 1}, {((0, 1), (1, 1)): 1, (False, (1, 1)): 1}]:
            self.assertIsNone(shown(*told, thing))

    def test_no_weights(self):
        told = self.told[:4] + ([[0], [0]],)
        self.assertEqual(shown(*told, {}), 0)
        self.assertEqual(worths(*told), {})
        self.assertEqual(shown(*told, {((3, 1), 0): 1, (0, (3, 1)): 1}), 2)
        for thing in [[], (), None, 0, {((3, 1), 0): 1}]:
            self.assertIsNone(shown(*told, thing))
        self.assertEqual(shown(*self.told[:4], [[7], [7]], {(0, (4, 1)): 7}), 21)

    def test_where_nothing_keeps(self):
        told = (plain_river(), 0, [(3,)], (5,), [[-1]])
        self.assertIsNone(worths(*told))
        self.assertEqual(shown(*told, {((0, 1), 0): 1}), -8 + 5)
        self.assertEqual(shown(*told, {((0, 1), 0): 3, (0, (0, 1)): 2}), -8 + 15 - 12)
        self.assertIsNone(shown(*told, {((0, 1), 0): 2}))

    def test_values_by_the_words(self):
        choice = random.Random(133)
        for _ in range(60):
            told = some_known(choice)
            river, first, rows, water = told
            prices = some_prices(choice, len(rows), len(river.lags))
            thing = worths(*told, prices)
            if thing is None:
                continue
            bounds = net(*told)
            left = {}
            self.assertEqual([pair in bounds for pair in thing], [True] * len(thing))
            for (x, y), worth in thing.items():
                self.assertGreaterEqual(worth, 1)
                left[x] = left.get(x, 0) + worth
                left[y] = left.get(y, 0) - worth
            for at in range(len(rows)):
                for place in range(len(river.lags)):
                    following = prices[at + 1][place] if at + 1 < len(rows) else 0
                    node = (first + at, point_of(river.lags, place))
                    self.assertEqual(left.pop(node, 0), following - prices[at][place])
            self.assertEqual({node for node in left if left[node] != 0} - {0}, set())
            self.assertEqual(list(thing), [pair for pair in bounds if pair in thing])
            # The sum 0 everywhere is reached, if by no true releases, by what the words tell.
            total = sum(bounds[pair] * thing[pair] for pair in thing)
            for at, row in enumerate(rows):
                for place in range(len(row)):
                    point = point_of(river.lags, place)
                    takes = river.day_on(first + at).takes
                    lying = sum(water[:point]) if at == 0 else 0
                    total += prices[at][place] * (lying + sum(row[:place + 1]) - sum(takes[:place + 1]))
            self.assertEqual(shown(*told, prices, thing), total)
            # A pair there and back more shows more by both bounds, which is no loss.
            for x, y in bounds:
                if (y, x) in bounds:
                    more = dict(thing)
                    more[(x, y)] = more.get((x, y), 0) + 2
                    more[(y, x)] = more.get((y, x), 0) + 2
                    self.assertEqual(shown(*told, prices, more), total + 2 * bounds[(x, y)] + 2 * bounds[(y, x)])

    def test_by_name(self):
        told = dict(zip(["river", "first", "rows", "water", "prices"], self.told))
        self.assertEqual(shown(thing=worths(**told), **told), dearest(**told))
        self.assertEqual(dearest_plan(**told), [(1,), (2,)])
        self.assertEqual(led_day_by_day(**told), (4, [(2,), (1,)]))


class SafeDayTest(unittest.TestCase):
    def test_one_reservoir(self):
        river = plain_river()
        for price, found in [(1, (2,)), (0, (0,)), (-1, (0,)), (10 ** 12, (2,))]:
            self.assertEqual(safe_day(river, 0, 1, (3,), (0,), [price]), found)
        self.assertEqual([safe_day(river, 0, 1, (3,), (come,), [-1]) for come in range(4)], [(0,), (0,), (1,), (2,)])
        self.assertEqual(safe_day(river, 0, 1, (1,), (0,), (5,)), (1,))
        self.assertIsNone(safe_day(river, 0, 1, (9,), (0,), [1]))

    def test_water_that_cannot_be_kept_ahead_of_the_row(self):
        river = plain_river()
        self.assertFalse(can_keep(river, 0, 1, (5,)))
        self.assertEqual(safe_day(river, 0, 1, (5,), (0,), [0]), (1,))
        self.assertEqual(safe_day(river, 0, 1, (5,), (0,), [1]), (2,))
        self.assertIsNone(safe_day(river, 0, 1, (5,), (2,), [1]))

    def test_against_all_releases(self):
        choice = random.Random(134)
        seen = {}
        for _ in range(300):
            river, first, rows, water = some_known(choice)
            last = first + choice.randint(0, 2)
            row = choice.choice(rows_of(river.day_on(first)))
            prices = some_prices(choice, 1, len(river.lags))[0]
            found = safe_day(river, first, last, water, row, prices)
            day = river.day_on(first)
            good = [told for told in all_releases(day, water, row) if is_keeping(river, first, last, water, row, told)]
            seen[(found is None, can_keep(river, first, last, water))] = True
            if not good:
                self.assertIsNone(found)
                self.assertIsNone(releases_for(river, first, last, water, row))
                continue
            most = max(yielded([prices], [told]) for told in good)
            best = [([told], [evening(day, water, row, told)]) for told in good if yielded([prices], [told]) == most]
            self.assertEqual([found], highest_of(best))
            self.assertIsInstance(found, tuple)
        self.assertEqual(len(seen), 3)

    def test_days_and_cells(self):
        small, great = wide_river([3, 1, 0, 0]), wide_river([3, 2, 0, 0])
        for first in [0, 5]:
            self.assertEqual(safe_day(small, first, first + 11, (0,) * 8, (1, 0, 0, 0), [1] * 4), (1, 0, 0, 0))
        for river, last, most in [(small, 12, 12), (great, 11, 8), (great, 12, 12), (great, 0, 8), (small, 39, 12)]:
            water = (0,) * (len(river.lags) + sum(river.lags))
            with self.assertRaises(TooMany) as caught:
                safe_day(river, 0, last, water, (0,) * 4, [1] * 4)
            self.assertEqual(caught.exception.most, most)
            with self.assertRaises(BadPrices):
                safe_day(river, 0, last, water, (0,) * 4, [1] * 3)
            with self.assertRaises(BadRow):
                safe_day(river, 0, last, water, (0,) * 3, None)

    def test_errors(self):
        river = two_places()
        for thing in [None, (), river.days]:
            with self.assertRaises(BadRiver):
                safe_day(thing, None, None, None, None, None)
        for first, last in [(-1, 0), (True, 1), (None, 0), (0, -1), (2, 1), (0, True), (0, 40), (0, "1")]:
            with self.assertRaises(BadNumber):
                safe_day(river, first, last, None, None, None)
        for water in [None, (), (1, 1), [1, 1, 1], (1, 1, True)]:
            with self.assertRaises(BadWater):
                safe_day(river, 0, 1, water, None, None)
        for row in [None, (), (1,), [1, 1], (3, 0), (-1, 0)]:
            with self.assertRaises(BadRow):
                safe_day(river, 0, 1, (1, 1, 1), row, None)
        for prices in [*NO_PRICES, [], [1], [1, 1, 1], [1, True], [1, None], [[1, 1]], (1, "1"), {0: 1, 1: 1}]:
            with self.assertRaises(BadPrices):
                safe_day(river, 0, 1, (1, 1, 1), (1, 1), prices)
        self.assertEqual(safe_day(river=river, first=0, last=0, water=(1, 1, 1), row=(1, 1), prices=(-1, 1)), (0, 2))


class LedTest(unittest.TestCase):
    def test_one_reservoir(self):
        self.assertEqual(led_day_by_day(plain_river(), 0, [(0,), (3,)], (3,), [[1], [-1]]), (2, [(2,), (0,)]))
        self.assertEqual(led_day_by_day(plain_river(), 0, [(0,), (3,)], (3,), [[0], [-1]]), (-1, [(0,), (1,)]))
        self.assertIsNone(led_day_by_day(plain_river(), 0, [(0,), (0,)], (4,), [[1], [1]]))
        self.assertIsNotNone(dearest(plain_river(), 0, [(0,), (0,)], (4,), [[1], [1]]))
        self.assertEqual(led_day_by_day(plain_river(), 0, [(0,)], (4,), [[1]]), (2, [(2,)]))

    def test_against_the_words(self):
        choice = random.Random(135)
        seen = {}
        for _ in range(250):
            told = some_known(choice)
            river, first, rows, water = told
            last = first + len(rows) - 1
            prices = some_prices(choice, len(rows), len(river.lags))
            found = led_day_by_day(*told, prices)
            self.assertEqual(found is None, not can_keep(river, first, last, water))
            seen[found is None] = True
            if found is None:
                continue
            total, plan = found
            lying = water
            for at, row in enumerate(rows):
                self.assertEqual(plan[at], safe_day(river, first + at, last, lying, row, prices[at]))
                self.assertIsInstance(plan[at], tuple)
                lying = evening(river.day_on(first + at), lying, row, plan[at])
            self.assertEqual(total, yielded(prices, plan))
            self.assertIsInstance(found, tuple)
            self.assertIsInstance(plan, list)
            self.assertIsNone(first_unsound(river, first, water, rows, plan))
            self.assertLessEqual(total, dearest(*told, prices))
        self.assertEqual(len(seen), 2)
