"""Days and rivers: points 20 and 21, and what point 3 says of them."""

import random
import unittest

from blindweirs.days import Day, River, cells_of, is_rain, point_of, rain_between, worst_row
from blindweirs.errors import BadDay, BadDays, BadLags, BadNumber, BadPlace, BadPoints, BadRain
from blindweirs.tables import Table, closed, nothing, sums
from brute import any_values, fitting, rows_of, some_day, some_rain

WRONG_LAGS = [[], (), [1], [0, 1], [4, 0], [-1, 0], [True, 0], [0, False], ["0"], [None], [0, 0, 0, 0, 0, 0],
              [3, 3, 3, 0], [2, 3, 3, 0, 0], None, 0, "0", {0: 0}, [[0]], [3, 3, 2, 1, 0], Table(1)]


class CellsTest(unittest.TestCase):
    def test_cells_of(self):
        self.assertEqual(cells_of([0]), [(0, 0)])
        self.assertEqual(cells_of((0, 0)), [(0, 0), (1, 0)])
        self.assertEqual(cells_of(lags=[2, 0, 1, 0]), [(0, 0), (0, 1), (0, 2), (1, 0), (2, 0), (2, 1), (3, 0)])
        self.assertEqual(cells_of([3, 0]), [(0, 0), (0, 1), (0, 2), (0, 3), (1, 0)])
        for lags in [[3, 3, 2, 0], [3, 3, 1, 0, 0], [0, 0, 0, 0, 0], [1, 2, 3, 1, 0]]:
            self.assertEqual(len(cells_of(lags)), len(lags) + sum(lags))

    def test_wrong_lags(self):
        for lags in [*WRONG_LAGS, *any_values()]:
            with self.assertRaises(BadLags):
                cells_of(lags)
            with self.assertRaises(BadLags):
                point_of(lags, None)

    def test_point_of(self):
        self.assertEqual([point_of([2, 0, 1, 0], place) for place in range(4)], [1, 4, 5, 7])
        self.assertEqual(point_of(lags=(0,), place=0), 1)
        for lags in [[0], [3, 0], [3, 3, 2, 0], [0, 0, 0, 0, 0]]:
            for place in range(len(lags)):
                self.assertEqual(cells_of(lags)[point_of(lags, place) - 1], (place, 0))

    def test_wrong_places(self):
        for place in [-1, 2, 7, True, False, None, "0", (0,), [0], {}, Table(1)]:
            with self.assertRaises(BadPlace):
                point_of([1, 0], place)


class RainTest(unittest.TestCase):
    def test_is_rain(self):
        self.assertIs(is_rain(rain_between([0], [0])), True)
        self.assertIs(is_rain(rain_between([1] * 5, [1] * 5)), True)
        self.assertIs(is_rain(Table(2, {(2, 0): 3, (0, 1): 0, (1, 2): 0})), True)
        wrong = [Table(1), Table(1, {(1, 0): 3, (0, 1): 1}), Table(1, {(1, 0): 3}), Table(1, {(0, 1): 0}), nothing(1),
                 nothing(3), Table(2, {(2, 0): 3, (0, 2): 0}), Table(2, {(1, 0): 1, (0, 1): 0, (1, 2): 0}),
                 Table(2, {(1, 0): 2, (0, 1): 0, (2, 1): 2, (1, 2): 1}),
                 Table(6, {(a, b): 0 for a in range(7) for b in range(7) if a != b})]
        for thing in [*wrong, *any_values()]:
            self.assertIs(is_rain(thing), False)

    def test_a_rain_has_no_water_below_zero(self):
        choice = random.Random(1)
        for _ in range(60):
            rain = some_rain(choice, choice.randint(1, 3))
            self.assertTrue(is_rain(rain))
            self.assertEqual(fitting(rain, -3, 5), fitting(rain, 0, 5))

    def test_rain_between(self):
        self.assertEqual(rain_between([1, 0], (4, 0)).bounds, {(0, 1): -1, (1, 0): 4, (1, 2): 0, (2, 1): 0})
        self.assertEqual(rain_between(least=[2], greatest=[2]), Table(1, {(1, 0): 2, (0, 1): -2}))
        least, greatest = [0, 1], [1, 2]
        rain = rain_between(least, greatest)
        least[0], greatest[0] = 5, 9
        self.assertEqual(rain, rain_between([0, 1], [1, 2]))
        wrong = [([], []), ([0], []), ([], [0]), ([0], [1, 2]), ([-1], [0]), ([2], [1]), ([0, 2], [3, 1]), ([True], [1]),
                 ([0], [True]), ([None], [1]), ([0] * 6, [1] * 6), (None, [1]), ([0], None), (0, 1), ({0: 0}, [1]),
                 ("0", "1"), ([0], {0: 1})]
        for least, greatest in wrong:
            with self.assertRaises(BadRain):
                rain_between(least, greatest)

    def test_worst_row(self):
        choice = random.Random(2)
        for _ in range(60):
            rain = some_rain(choice, choice.randint(1, 3))
            rows = fitting(rain, 0, 5)
            for a in range(rain.size + 1):
                for b in range(rain.size + 1):
                    row = worst_row(rain, a, b)
                    self.assertIn(row, rows)
                    self.assertEqual(sums(row)[a] - sums(row)[b], max(sums(one)[a] - sums(one)[b] for one in rows))

    def test_wrong_worst_rows(self):
        rain = rain_between([0, 1], [2, 2])
        self.assertEqual(worst_row(rain=rain, a=0, b=2), (0, 1))
        for thing in [None, Table(2), nothing(2), Table(1, {(1, 0): 3, (0, 1): 1}), (0, 1)]:
            with self.assertRaises(BadRain):
                worst_row(thing, None, None)
        for a, b in [(-1, 0), (3, 0), (0, 3), (0, -1), (True, 0), (0, False), (None, 0), (0, "1"), ((0,), 1)]:
            with self.assertRaises(BadPoints):
                worst_row(rain, a, b)


class DayTest(unittest.TestCase):
    def setUp(self):
        self.rain = rain_between([0, 0], [3, 1])
        self.marks = Table(3, {(1, 0): 5, (3, 2): 4})
        self.day = Day([1, 0], [(0, 2), (1, None)], self.rain, [0, 2], self.marks)

    def test_properties(self):
        self.assertEqual(self.day.lags, (1, 0))
        self.assertEqual(self.day.outlets, ((0, 2), (1, None)))
        self.assertEqual(self.day.rain, self.rain)
        self.assertEqual(self.day.takes, (0, 2))
        self.assertEqual(self.day.marks, self.marks)
        for told in [self.day.lags, self.day.outlets, self.day.takes]:
            self.assertIsInstance(told, tuple)
        plain = Day(lags=(1, 0), outlets=((0, 0), (0, 0)), rain=self.rain)
        self.assertEqual((plain.takes, plain.marks), ((0, 0), Table(3)))

    def test_what_is_passed_may_be_changed(self):
        lags, outlets, takes = [1, 0], [(0, 2), (1, None)], [0, 2]
        day = Day(lags, outlets, self.rain, takes, self.marks)
        lags[0], outlets[0], takes[0] = 2, (5, 5), 9
        self.assertEqual(day, self.day)

    def test_sound(self):
        self.assertEqual(self.day.sound, closed(Table(3, {(1, 0): 5, (3, 2): 4, (0, 1): 0, (1, 2): 0, (2, 3): 0})))
        self.assertEqual(self.day.with_marks(None).sound, closed(Table(3, {(0, 1): 0, (1, 2): 0, (2, 3): 0})))
        self.assertEqual(self.day.with_marks(Table(3, {(2, 1): -1})).sound, nothing(3))
        choice = random.Random(3)
        for _ in range(20):
            day = some_day(choice, [1, 0])
            fit = [water for water in fitting(day.marks, -1, 4) if min(water) >= 0]
            self.assertEqual(fitting(day.sound, -1, 4), fit)

    def test_wrong_parts(self):
        good = [[1, 0], [(0, 2), (1, None)], self.rain, [0, 2], self.marks]
        wrong = [[], [[], [(0, 1)], [(0, 1)] * 3, [(1, 0), (0, 1)], [[0, 1], (0, 1)], [(0, 1), (0,)], [(0, 1, 2), (0, 1)],
                      [(-1, 1), (0, 1)], [(None, 1), (0, 1)], [(True, 1), (0, 1)], [(0, True), (0, 1)],
                      [(0, "1"), (0, 1)], None, (0, 1), {0: 1, 1: 2}, "ab", [(0, 1), None]],
                 [None, Table(2), nothing(2), rain_between([0], [1]), rain_between([0] * 3, [0] * 3), (0, 1), True],
                 [[], [0], [0, 0, 0], [-1, 0], [0, True], [0, None], ["0", 0], 0, {}, {0: 0, 1: 0}, "00", False],
                 [Table(2), Table(4), (3, {}), {}, [], 3, False, "marks"]]
        parts = [None, "outlets", "rain", "takes", "marks"]
        for at in range(1, 5):
            for thing in wrong[at]:
                # What stands behind the first wrong part may be wrong as well: the first one alone is told.
                for behind in [good[at + 1:], [wrong[later][0] for later in range(at + 1, 5)]]:
                    with self.assertRaises(BadDay) as caught:
                        Day(*good[:at], thing, *behind)
                    self.assertEqual(caught.exception.part, parts[at], thing)
        for lags in WRONG_LAGS:
            with self.assertRaises(BadLags):
                Day(lags, None, None, 0, 0)

    def test_with(self):
        day = self.day
        self.assertEqual(day.with_outlets([(0, 0), (0, 1)]).outlets, ((0, 0), (0, 1)))
        self.assertEqual(day.with_rain(rain=rain_between([1, 1], [1, 1])).rain, rain_between([1, 1], [1, 1]))
        self.assertEqual(day.with_takes([4, 4]).takes, (4, 4))
        self.assertEqual(day.with_takes(takes=None).takes, (0, 0))
        self.assertEqual(day.with_marks(marks=Table(3)).marks, Table(3))
        self.assertEqual(day.with_marks(None).marks, Table(3))
        self.assertEqual(day.with_outlets(outlets=day.outlets), day)
        changed = [day.with_outlets([(0, 2), (1, 9)]), day.with_rain(rain_between([0, 0], [3, 2])),
                   day.with_takes([0, 1]), day.with_marks(None)]
        for one in changed:
            self.assertNotEqual(one, day)
            self.assertEqual(one.lags, day.lags)
        self.assertEqual(day, Day([1, 0], [(0, 2), (1, None)], self.rain, [0, 2], self.marks))
        for call, part in [(day.with_outlets, "outlets"), (day.with_rain, "rain"), (day.with_takes, "takes"),
                           (day.with_marks, "marks")]:
            for thing in [7, [1], True, "x"]:
                with self.assertRaises(BadDay) as caught:
                    call(thing)
                self.assertEqual(caught.exception.part, part)
        for call, part in [(day.with_outlets, "outlets"), (day.with_rain, "rain")]:
            with self.assertRaises(BadDay) as caught:
                call(None)
            self.assertEqual(caught.exception.part, part)

    def test_equality(self):
        for thing in [None, 0, (1, 0), [], self.rain, River([self.day])]:
            self.assertFalse(self.day == thing)
        self.assertNotEqual(Day([1, 0], [(0, 0)] * 2, self.rain), Day([2, 0], [(0, 0)] * 2, self.rain))
        dry = rain_between([0, 0, 0], [0, 0, 0])
        self.assertNotEqual(Day([2, 0, 0], [(0, 0)] * 3, dry), Day([1, 1, 0], [(0, 0)] * 3, dry))
        # Marks that say the same are not yet the same marks.
        marks = Table(3, {(1, 0): 5, (2, 1): 4})
        self.assertNotEqual(self.day.with_marks(marks), self.day.with_marks(closed(marks)))
        with self.assertRaises(TypeError):
            iter(self.day)


class RiverTest(unittest.TestCase):
    def setUp(self):
        dry = rain_between([0, 0], [0, 0])
        self.days = [Day([1, 0], [(0, most), (0, most)], dry) for most in range(41)]
        self.other = Day([0, 0], [(0, 1), (0, 1)], dry)

    def test_days(self):
        for many in [1, 2, 40]:
            river = River(self.days[:many])
            self.assertEqual(river.days, tuple(self.days[:many]))
            self.assertEqual((len(river), river.lags), (many, (1, 0)))
        self.assertEqual(River(days=tuple(self.days[:3])), River(self.days[:3]))
        told = self.days[:2]
        river = River(told)
        told.append(self.other)
        self.assertEqual(len(river), 2)

    def test_wrong_days(self):
        for thing in [None, [], (), self.days, self.days[0], {}, {0: self.days[0]}, "", 1, River(self.days[:1])]:
            with self.assertRaises(BadDays) as caught:
                River(thing)
            self.assertIsNone(caught.exception.at)
        one, two = self.days[:2]
        for thing, at in [([None], 0), ([one, None], 1), ([one, self.other, None], 1), ([one, two, one, self.other], 3),
                          ([None, one], 0), ([True, self.other], 0), ([self.other, one], 1), ([[one]], 0),
                          ([one] * 40 + [None], None)]:
            with self.assertRaises(BadDays) as caught:
                River(thing)
            self.assertEqual(caught.exception.at, at)

    def test_day_on(self):
        river = River(self.days[:3])
        for number in [0, 1, 2, 3, 4, 10, 10 ** 7, 10 ** 12]:
            self.assertEqual(river.day_on(number=number), self.days[number % 3])
        for number in [-1, True, False, None, "0", (0,), [], Table(1)]:
            with self.assertRaises(BadNumber):
                river.day_on(number)

    def test_equality(self):
        river = River(self.days[:2])
        self.assertEqual(river, River(self.days[:2]))
        self.assertNotEqual(river, River(self.days[1::-1]))
        self.assertNotEqual(river, River(self.days[:2] * 2))
        for thing in [None, 2, tuple(self.days[:2]), self.days[:2], self.days[0]]:
            self.assertFalse(river == thing)
        with self.assertRaises(TypeError):
            iter(river)
        with self.assertRaises(TypeError):
            self.days[0] in river


class RowsTest(unittest.TestCase):
    def test_rows_are_the_waters_that_fit(self):
        day = Day([0, 0], [(0, 0), (0, 0)], Table(2, {(2, 0): 1, (0, 1): 0, (1, 2): 0}))
        self.assertEqual(rows_of(day), [(0, 0), (0, 1), (1, 0)])
