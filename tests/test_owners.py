"""Owners of two parts of a river: point 90."""

import random
import unittest

from blindweirs.days import Day, River, cells_of, is_rain, point_of, rain_between
from blindweirs.errors import BadNumber, BadPlace, BadPromise, BadRiver, BadWater, NotApart
from blindweirs.kept import can_keep
from blindweirs.owners import lower_river, parts_of, promise_stretch, upper_river
from blindweirs.tables import Table, both, closed, hidden
from brute import can_win, fitting, some_rain, some_table, waters

MOST = 10 ** 12
WRONG_STRETCHES = [(-1, 0), (True, 1), (None, 0), (0, -1), (2, 1), (0, True), (0, 40), (0, "1")]
LAGS = [[0, 0], [1, 0], [3, 0], [0, 1, 0], [1, 0, 0], [2, 1, 0]]


def some_apart_day(choice, lags, border):
    """A day whose marks lie apart at the border."""
    places, size, point = len(lags), len(lags) + sum(lags), point_of(lags, border)
    outlets = []
    for _ in range(places):
        least = choice.choice([0, 0, 0, 1])
        outlets.append((least, choice.choice([None, least, least + 1, least + 2])))
    marks = Table(size, {(cell + 1, cell): choice.randint(1, 3) for cell in range(size)})
    further = some_table(choice, size, -1, 4, 0.2).bounds
    apart = {pair: further[pair] for pair in further if max(pair) <= point or min(pair) >= point}
    takes = [choice.choice([0, 0, 1]) for _ in range(places)]
    return Day(lags, outlets, some_rain(choice, places), takes, both(marks, Table(size, apart)))


def some_apart_river(choice, lags, border):
    return River([some_apart_day(choice, lags, border) for _ in range(choice.randint(1, 2))])


def some_promise(choice, river):
    promise = []
    for _ in river.days:
        least = choice.randint(0, 2)
        promise.append((least, least + choice.randint(0, 2)))
    return promise


def three_places():
    """Three places, with a way of two days behind the first one and rain that is bounded together."""
    marks = Table(5, {(1, 0): 9, (3, 1): 8, (4, 3): 7, (5, 3): 6, (0, 1): -1, (5, 4): 5})
    rain = both(rain_between([0, 1, 2], [3, 4, 5]), Table(3, {(3, 0): 10, (3, 1): 6, (1, 3): -4, (2, 0): 6}))
    day = Day([2, 0, 0], [(0, 5), (1, None), (2, 6)], rain, [1, 2, 3], marks)
    return River([day, day.with_outlets([(1, None), (0, 3), (0, 0)]).with_rain(rain_between([1, 1, 1], [1, 1, 2]))])


class UpperTest(unittest.TestCase):
    def test_first_place(self):
        river = three_places()
        found = upper_river(river, 0, [(2, 4), (0, 7)])
        one, two = river.days
        self.assertEqual(found.days[0], Day([0], [(2, 4)], hidden(one.rain, (2, 3)), [1], Table(1, {(1, 0): 9, (0, 1): -1})))
        self.assertEqual(found.days[1], Day([0], [(1, 7)], hidden(two.rain, (2, 3)), [1], Table(1, {(1, 0): 9, (0, 1): -1})))

    def test_middle_place(self):
        marks = Table(5, {(1, 0): 9, (3, 1): 8, (4, 3): 7, (5, 4): 5, (0, 4): -2, (4, 0): 3})
        river = River([day.with_marks(marks) for day in three_places().days])
        found = upper_river(river=river, border=1, promise=[(2, 4), (0, 7)])
        self.assertEqual(found.lags, (2, 0))
        for day, part, outlets in zip(river.days, found.days, [((0, 5), (2, 4)), ((1, None), (0, 3))]):
            self.assertEqual(part.outlets, outlets)
            self.assertEqual(part.takes, (1, 2))
            self.assertEqual(part.rain, hidden(day.rain, (3,)))
            self.assertEqual(part.marks, Table(4, {(1, 0): 9, (3, 1): 8, (4, 3): 7, (0, 4): -2, (4, 0): 3}))

    def test_narrowed_outlets(self):
        for outlet, span, narrow in [((1, 3), (0, 9), (1, 3)), ((1, 3), (2, 2), (2, 2)), ((1, 3), (3, 5), (3, 3)),
                                     ((1, 3), (0, 1), (1, 1)), ((2, None), (0, MOST), (2, MOST)), ((0, None), (4, 4), (4, 4))]:
            day = Day([0, 0], [outlet, (0, None)], rain_between([0, 0], [0, 0]))
            self.assertEqual(upper_river(River([day]), 0, [span]).days[0].outlets, (narrow,))
        for outlet, span in [((1, 3), (4, 5)), ((1, 3), (0, 0)), ((5, None), (0, 4))]:
            day = Day([0, 0], [outlet, (0, None)], rain_between([0, 0], [0, 0]))
            wide = day.with_outlets([(0, None), (0, 0)])
            for river, promise in [(River([day]), [span]), (River([wide, day]), [span, span])]:
                with self.assertRaises(BadPromise):
                    upper_river(river, 0, promise)
                self.assertEqual(lower_river(river, 0, promise).days[-1].outlets, ((0, None), day.outlets[1]))

    def test_rain_has_the_rows_of_the_upper_places(self):
        river = three_places()
        for border in [0, 1]:
            calm = River([day.with_marks(None) for day in river.days])
            found = upper_river(calm, border, [(2, 4), (2, 4)] if border == 0 else [(1, 3), (1, 3)])
            for day, part in zip(calm.days, found.days):
                rows = sorted({row[:border + 1] for row in fitting(day.rain, 0, 5)})
                self.assertEqual(fitting(part.rain, 0, 5), rows)
                self.assertEqual(closed(part.rain), part.rain)


class LowerTest(unittest.TestCase):
    def test_first_place(self):
        river = three_places()
        found = lower_river(river=river, border=0, promise=[(2, 4), (0, 0)])
        one = found.days[0]
        self.assertEqual(found.lags, (2, 0, 0))
        self.assertEqual(one.outlets, ((0, None), (1, None), (2, 6)))
        self.assertEqual(one.takes, (0, 2, 3))
        self.assertEqual(one.marks, Table(5, {(1, 0): 0, (3, 1): 8, (4, 3): 7, (5, 3): 6, (5, 4): 5}))
        rain = closed(river.days[0].rain).bounds
        told = {(1, 0): 4, (0, 1): -2, **{(a, b): rain[(a, b)] for a, b in rain if a > 0 and b > 0}}
        self.assertEqual(one.rain, closed(Table(3, told)))
        self.assertEqual(found.days[1].outlets, ((0, None), (0, 3), (0, 0)))
        self.assertEqual(found.days[1].rain, closed(rain_between([0, 1, 1], [0, 1, 2])))

    def test_middle_place(self):
        day = three_places().days[0].with_marks(Table(5, {(1, 0): 9, (5, 4): 5, (4, 5): -1, (4, 1): 3}))
        found = lower_river(River([day]), 1, [(2, 4)]).days[0]
        self.assertEqual(found.lags, (0, 0))
        self.assertEqual(found.outlets, ((0, None), (2, 6)))
        self.assertEqual(found.takes, (0, 3))
        self.assertEqual(found.marks, Table(2, {(1, 0): 0, (2, 1): 5, (1, 2): -1}))
        self.assertEqual(found.rain.bounds[(2, 1)], 5)
        self.assertEqual(fitting(found.rain, 0, 6), [(come, row) for come in (2, 3, 4) for row in
                                                     sorted({row[2] for row in fitting(day.rain, 0, 5)})])

    def test_rain_of_several_places_bounded_together(self):
        # Across the border nothing is left of what bounds the places together, below it all is.
        rain = both(rain_between([0, 0, 0], [2, 2, 2]), Table(3, {(2, 0): 2, (3, 1): 3, (1, 3): -1}))
        day = Day([0, 0, 0], [(0, None)] * 3, rain)
        rows = fitting(lower_river(River([day]), 0, [(0, 1)]).days[0].rain, 0, 3)
        below = sorted({row[1:] for row in fitting(rain, 0, 2)})
        self.assertEqual(rows, [(come, *row) for come in (0, 1) for row in below])
        rows = fitting(upper_river(River([day]), 1, [(0, 1)]).days[0].rain, 0, 3)
        self.assertEqual(rows, sorted({row[:2] for row in fitting(rain, 0, 2)}))

    def test_lags(self):
        for lag in range(4):
            day = Day([lag, 1, 0], [(0, 1)] * 3, rain_between([0] * 3, [1] * 3), None,
                      Table(lag + 4, {(lag + 2, lag + 1): 3, (1, 0): 2, (lag + 4, lag + 3): 1}))
            found = lower_river(River([day]), 0, [(0, 1)])
            self.assertEqual(found.lags, (lag, 1, 0))
            self.assertEqual(found.days[0].marks.bounds, {(1, 0): 0, (lag + 2, lag + 1): 3, (lag + 4, lag + 3): 1})
            self.assertEqual(upper_river(River([day]), 0, [(0, 1)]).lags, (0,))
            upper = upper_river(River([day]), 1, [(0, 1)])
            self.assertEqual(upper.lags, (lag, 0))
            self.assertEqual(upper.days[0].marks.bounds, {(1, 0): 2, (lag + 2, lag + 1): 3})
            self.assertEqual(lower_river(River([day]), 1, [(0, 1)]).lags, (1, 0))


class PartsTest(unittest.TestCase):
    def test_waters(self):
        river = three_places()
        self.assertEqual(parts_of(river, 0, (1, 2, 3, 4, 5)), ((1,), (0, 2, 3, 4, 5)))
        calm = River([river.days[0].with_marks(None)])
        self.assertEqual(parts_of(river=calm, border=1, water=(1, 2, -3, 4, 5)), ((1, 2, -3, 4), (0, 5)))

    def test_what_both_parts_can_keep_can_be_kept(self):
        choice = random.Random(90)
        kept = 0
        while kept < 20:
            lags = choice.choice(LAGS)
            border = choice.randrange(len(lags) - 1)
            river = some_apart_river(choice, lags, border)
            promise = some_promise(choice, river)
            last = choice.randint(0, 2)
            water = choice.choice(waters(len(cells_of(lags)), 0, 2))
            above, below = parts_of(river, border, water)
            lower = lower_river(river, border, promise)
            try:
                upper = upper_river(river, border, promise)
            except BadPromise:
                continue
            if can_keep(upper, 0, last, above) and can_keep(lower, 0, last, below):
                self.assertTrue(can_keep(river, 0, last, water))
                kept += 1
                if len(water) < 3 and last < 2:
                    self.assertTrue(can_win(river, 0, last, water, {}))
            for day in [*upper.days, *lower.days]:
                self.assertTrue(is_rain(day.rain))


class BorderTest(unittest.TestCase):
    def calls(self):
        return [(upper_river, 1), (lower_river, 1), (parts_of, 1), (promise_stretch, 4)]

    def test_places(self):
        river = three_places()
        alone = River([Day([0], [(0, 2)], rain_between([0], [1]))])
        for call, more in self.calls():
            with self.assertRaises(BadRiver):
                call(None, None, *[None] * more)
            for border in [None, -1, 2, 3, True, "0", (0,)]:
                with self.assertRaises(BadPlace):
                    call(river, border, *[None] * more)
            for border in [0, -1, None]:
                with self.assertRaises(BadPlace):
                    call(alone, border, *[None] * more)

    def test_marks_that_lie_across(self):
        day = Day([1, 0, 0], [(0, 2)] * 3, rain_between([0] * 3, [1] * 3))
        for border, point in [(0, 1), (1, 3)]:
            for a in range(5):
                for b in range(5):
                    if a == b:
                        continue
                    across = day.with_marks(Table(4, {(a, b): 9, (1, 0): 10 ** 6}))
                    apart = not min(a, b) < point < max(a, b)
                    for days in [[across], [day, day, across], [across, day]]:
                        river = River(days)
                        if apart:
                            self.assertEqual(len(upper_river(river, border, [(0, 2)] * len(days))), len(days))
                            self.assertEqual(parts_of(river, border, (0, 0, 0, 0))[1][0], 0)
                            continue
                        for call, more in self.calls():
                            with self.assertRaises(NotApart):
                                call(river, border, *[None] * more)


class PromiseTest(unittest.TestCase):
    def test_what_is_no_promise(self):
        river = three_places()
        wrong = [None, 0, "", {}, {0: (0, 1)}, [], [(0, 1)], [(0, 1)] * 3, [(0, 1), (2, 1)], [(0, 1), (-1, 1)],
                 [(0, 1), [0, 1]], [(0, 1), (0,)], [(0, 1), (0, 1, 2)], [(0, 1), (0, None)], [(0, 1), (True, 1)],
                 [(0, 1), (0, True)], [(0, 1), None], [(0, 1), "01"], ((0, 1), (0, -1))]
        for promise in wrong:
            for call in [upper_river, lower_river]:
                with self.assertRaises(BadPromise):
                    call(river, 0, promise)
        self.assertEqual(lower_river(river, 0, ((0, 1), (1, 1))), lower_river(river, 0, [(0, 1), (1, 1)]))
        self.assertEqual(upper_river(river, 0, ((0, 1), (1, 1))), upper_river(river, 0, [(0, 1), (1, 1)]))


class StretchTest(unittest.TestCase):
    def plain(self, outlet=(0, 9), most=5):
        """The upper place holds at most 5 of at most 3 a day, the lower one lets down at most 4."""
        marks = Table(2, {(1, 0): 5, (2, 1): most})
        return River([Day([0, 0], [outlet, (0, 4)], rain_between([0, 0], [3, 1]), None, marks)])

    def test_both_ends(self):
        self.assertEqual(promise_stretch(self.plain(), 0, 0, 39, (5, 5), 0), (3, 3))
        self.assertEqual(promise_stretch(self.plain(), 0, 0, 0, (5, 5), 0), (3, 3))
        self.assertEqual(promise_stretch(self.plain(), 0, 0, 0, (3, 5), 0), (1, 3))
        self.assertEqual(promise_stretch(self.plain(), 0, 0, 0, (2, 5), 0), (0, 3))
        self.assertEqual(promise_stretch(self.plain(), 0, 0, 0, (2, 5), 2), (2, 3))
        self.assertEqual(promise_stretch(self.plain(), 0, 0, 0, (2, 3), 1), (1, 5))
        self.assertIsNone(promise_stretch(self.plain(), 0, 0, 0, (6, 6), 0))
        self.assertIsNone(promise_stretch(self.plain(), 0, 0, 0, (9, 5), 0))
        self.assertIsNone(promise_stretch(self.plain(), 0, 0, 0, (2, 9), 0))

    def test_the_ends_of_the_numbers(self):
        free = River([Day([0, 0], [(0, None), (0, None)], rain_between([0, 0], [3, 1]))])
        self.assertEqual(promise_stretch(free, 0, 0, 3, (0, 0), 0), (0, MOST))
        self.assertEqual(promise_stretch(free, 0, 0, 3, (MOST, 0), 0), (0, MOST))
        self.assertEqual(promise_stretch(free, 0, 0, 3, (0, 0), 1), None)
        self.assertEqual(promise_stretch(free, 0, 0, 0, (MOST, 0), MOST), (MOST, MOST))
        self.assertEqual(promise_stretch(free, 0, 0, 0, (MOST - 1, 0), MOST), None)
        held = River([free.days[0].with_marks(Table(2, {(1, 0): 0}))])
        self.assertEqual(promise_stretch(held, 0, 0, 0, (MOST - 3, 0), 0), (MOST, MOST))
        self.assertEqual(promise_stretch(held, 0, 0, 0, (MOST - 2, 0), 0), None)
        deep = River([free.days[0].with_marks(Table(2, {(2, 1): MOST - 1})).with_outlets([(0, None), (0, 0)])])
        self.assertEqual(promise_stretch(deep, 0, 0, 0, (0, 0), 0), (0, MOST - 2))

    def test_where_nothing_is_left_of_an_outlet(self):
        self.assertIsNone(promise_stretch(self.plain((0, 2)), 0, 0, 0, (2, 0), 3))
        self.assertEqual(promise_stretch(self.plain((4, 6)), 0, 0, 0, (5, 0), 0), (4, 8))
        self.assertIsNone(promise_stretch(self.plain((4, 6)), 0, 0, 0, (5, 5), 0))
        # On a day beyond the stretch, too, the promise must leave something.
        day = self.plain().days[0]
        river = River([day, day.with_outlets([(2, 9), (0, 4)])])
        self.assertEqual(promise_stretch(river, 0, 0, 0, (2, 5), 0), (2, 3))

    def test_against_trying_numbers(self):
        choice = random.Random(91)
        seen = {}
        for _ in range(80):
            lags = choice.choice(LAGS)
            border = choice.randrange(len(lags) - 1)
            river = some_apart_river(choice, lags, border)
            first = choice.randint(0, 1)
            last = first + choice.randint(0, 2)
            water = choice.choice(waters(len(cells_of(lags)), 0, 2))
            least = choice.choice([0, 0, 1, 2])
            above, below = parts_of(river, border, water)
            good = []
            for most in range(least, 30):
                promise = [(least, most)] * len(river)
                try:
                    upper = upper_river(river, border, promise)
                except BadPromise:
                    continue
                if can_keep(upper, first, last, above) and can_keep(lower_river(river, border, promise), first, last, below):
                    good.append(most)
            found = promise_stretch(river, border, first, last, water, least)
            if not good:
                self.assertIsNone(found)
            else:
                self.assertEqual(found, (good[0], MOST if good[-1] == 29 else good[-1]))
                self.assertEqual(good, list(range(good[0], good[-1] + 1)))
            seen[found is None] = True
        self.assertEqual(len(seen), 2)

    def test_errors(self):
        river = three_places()
        for first, last in WRONG_STRETCHES:
            with self.assertRaises(BadNumber):
                promise_stretch(river, 0, first, last, None, None)
        for water in [None, (), (1,), [1, 1, 1, 1, 1], (1, 1, 1, 1, True), (1,) * 6]:
            with self.assertRaises(BadWater):
                promise_stretch(river, 0, 0, 1, water, None)
            with self.assertRaises(BadWater):
                parts_of(river, 0, water)
        for least in [None, -1, MOST + 1, True, "0"]:
            with self.assertRaises(BadNumber):
                promise_stretch(river, 0, 0, 1, (1,) * 5, least)
        self.assertIsNone(promise_stretch(river=river, border=0, first=0, last=1, water=(99,) * 5, least=0))
