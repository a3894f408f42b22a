"""Kept blind: points 40 and 41."""

import random
import unittest

from blindweirs.days import Day, River, cells_of, rain_between
from blindweirs.errors import (BadDay, BadLags, BadNumber, BadReleases, BadRiver, BadRow, BadTable, BadWater, OtherSize)
from blindweirs.kept import before, can_keep, comes_from, is_keeping, is_led, releases_for, tables
from blindweirs.steps import evening, is_sound
from blindweirs.tables import Table, both, closed, hidden, is_empty, is_within, nothing
from brute import all_releases, any_values, can_win, fitting, rows_of, some_river, some_table, waters

WRONG_STRETCHES = [(-1, 0), (True, 1), (None, 0), ("0", 1), (0, -1), (2, 1), (0, True), (0, None), (0, 40), (5, 45),
                   (0, "1"), ((0,), 1), (0, [1])]


def plain_river():
    """The river of the document's first example."""
    return River([Day([0], [(0, 2)], rain_between([0], [3]), None, Table(1, {(1, 0): 5}))])


def long_river():
    day = Day([1, 0], [(0, 2), (0, 3)], rain_between([1, 0], [2, 1]), [0, 1], Table(3, {(1, 0): 9, (3, 2): 9}))
    other = Day([1, 0], [(0, 3), (0, None)], rain_between([0, 0], [2, 0]), None, Table(3, {(3, 0): 20}))
    return River([day, other, day])


class BeforeTest(unittest.TestCase):
    def test_comes_from(self):
        self.assertEqual(comes_from([0]), (0, 1))
        self.assertEqual(comes_from([0, 0]), (0, 1, 2))
        self.assertEqual(comes_from(lags=[2, 0, 1, 0]), (0, 1, 1, 2, 4, 5, 5, 7))
        self.assertEqual(comes_from((3, 0)), (0, 1, 1, 2, 3, 5))
        for lags in [[], [1], None, [4, 0], [True, 0], "0", 0, {0: 0}]:
            with self.assertRaises(BadLags):
                comes_from(lags)

    def test_points_move_as_the_document_says(self):
        for lags in [[0], [3, 0], [0, 2, 0], [1, 1, 1, 1, 0], [3, 3, 2, 0]]:
            told = [0]
            for at, (_, step) in enumerate(cells_of(lags)):
                told.append(at + 1 if step == 0 else at)
            self.assertEqual(comes_from(lags), tuple(told))

    def test_before_fits_what_can_be_led(self):
        choice = random.Random(1)
        for _ in range(40):
            day = some_river(choice).day_on(0)
            after = both(day.marks, some_table(choice, day.marks.size, -1, 4, 0.3))
            if choice.random() < 0.8:
                after = both(after, day.sound)
            morning = before(day, after)
            self.assertEqual(closed(morning), morning)
            for water in choice.sample(waters(day.marks.size, -1, 3), 5):
                if not is_within(after, day.sound) and any(most is None for _, most in day.outlets):
                    continue
                won = all(any(after.fits(evening(day, water, row, told))
                              for told in all_releases(day, water, row)) for row in rows_of(day))
                self.assertEqual(morning.fits(water), won)

    def test_no_greatest_release(self):
        day = Day([0, 0], [(1, None), (0, 2)], rain_between([0, 0], [1, 1]))
        # Neither the first place nor what lies between it and the border can be too full.
        self.assertEqual(before(day, Table(2, {(1, 0): 3})), Table(2))
        self.assertEqual(before(day, Table(2, {(1, 2): 3})), Table(2))
        self.assertEqual(before(day, Table(2, {(0, 1): -3})), closed(Table(2, {(0, 1): -4})))
        self.assertEqual(before(day, Table(2, {(2, 0): 5})), Table(2, {(2, 0): 5}))
        self.assertEqual(before(day, Table(2, {(2, 1): 4})), Table(2, {(2, 1): 4}))

    def test_two_points_that_come_from_the_same_one(self):
        day = Day([1, 0], [(1, 2), (0, 0)], rain_between([0, 0], [0, 0]))
        # At least 2, at most 2 of the way's first cell: what is let down lies just there.
        self.assertEqual(before(day, Table(3, {(1, 2): -2})), Table(3))
        self.assertEqual(before(day, Table(3, {(1, 2): -3})), nothing(3))
        self.assertEqual(before(day, Table(3, {(2, 1): 1})), Table(3))
        self.assertEqual(before(day, Table(3, {(2, 1): 0})), nothing(3))
        shut = day.with_outlets([(1, None), (0, 0)])
        self.assertEqual(before(shut, Table(3, {(1, 2): -99})), Table(3))

    def test_takes_and_rain(self):
        day = Day([0, 0], [(1, 2), (3, 5)], rain_between([1, 0], [4, 2]), [7, 11])
        self.assertEqual(before(day, Table(2, {(1, 0): 20})), Table(2, {(1, 0): 20 + 2 - 4 + 7}))
        self.assertEqual(before(day, Table(2, {(0, 1): 20})), Table(2, {(0, 1): 20 - 1 + 1 - 7}))
        self.assertEqual(before(day, Table(2, {(2, 1): 20})), Table(2, {(2, 1): 20 + 5 - 1 - 2 + 11}))
        self.assertEqual(before(day, Table(2, {(0, 2): 20})), Table(2, {(0, 2): 20 - 3 + 1 - 18}))

    def test_tables_that_are_not_closed_or_empty(self):
        day = Day([0, 0], [(0, 1), (0, None)], rain_between([0, 0], [1, 1]))
        after = Table(2, {(2, 1): 3, (1, 0): 2})
        self.assertEqual(before(day, after), before(day, closed(after)))
        # Only with the bound that both tell together: (1, 0) by (1, 2) and (2, 0).
        after = Table(2, {(1, 2): -1, (2, 0): 4})
        self.assertEqual(before(day, after), before(day, closed(after)))
        self.assertIn((1, 0), before(day, after).bounds)
        for empty in [nothing(2), Table(2, {(1, 2): -1, (2, 1): 0})]:
            self.assertEqual(before(day, empty), nothing(2))

    def test_errors(self):
        day = Day([1, 0], [(0, 1), (0, 1)], rain_between([0, 0], [0, 0]))
        for thing in [None, 0, River([day]), Table(3)]:
            with self.assertRaises(BadDay) as caught:
                before(thing, None)
            self.assertIsNone(caught.exception.part)
        for thing in [None, 0, True, (), {}, day]:
            with self.assertRaises(BadTable) as caught:
                before(day=day, after=thing)
            self.assertEqual(caught.exception.part, "after")
        for size in [1, 2, 4]:
            with self.assertRaises(OtherSize):
                before(day, Table(size))


class TablesTest(unittest.TestCase):
    def test_example(self):
        river = plain_river()
        self.assertEqual([morning.bounds for morning, _ in tables(river, 0, 1)],
                         [{(0, 1): 0, (1, 0): 3}, {(0, 1): 0, (1, 0): 4}])
        self.assertEqual((can_keep(river, 0, 1, (3,)), can_keep(river, 0, 1, (4,))), (True, False))

    def test_evenings_and_mornings(self):
        river = long_river()
        for first, last in [(0, 0), (2, 7), (5, 44), (10 ** 7 - 3, 10 ** 7)]:
            found = tables(river=river, first=first, last=last)
            self.assertIsInstance(found, list)
            self.assertEqual(len(found), last - first + 1)
            self.assertEqual(found[-1][1], river.day_on(last).sound)
            for at, (morning, after) in enumerate(found):
                day = river.day_on(first + at)
                self.assertEqual(morning, before(day, after))
                self.assertEqual((closed(morning), closed(after)), (morning, after))
                if first + at < last:
                    self.assertEqual(after, closed(both(day.sound, found[at + 1][0])))

    def test_days_come_again(self):
        river = long_river()
        self.assertEqual(tables(river, 1, 6), tables(river, 4, 9))
        self.assertNotEqual(tables(river, 1, 6), tables(river, 2, 7))

    def test_nothing_stays_nothing(self):
        river = River([plain_river().day_on(0), Day([0], [(0, 2)], rain_between([0], [3]), None, nothing(1))])
        self.assertEqual(tables(river, 0, 1), [(nothing(1), nothing(1)), (nothing(1), nothing(1))])
        self.assertTrue(can_keep(river, 0, 0, (4,)))
        self.assertFalse(can_keep(river, 0, 1, (4,)))

    def test_waters_below_zero(self):
        river = River([Day([0], [(0, 2)], rain_between([2], [3]))])
        self.assertEqual([water for water in range(-4, 1) if can_keep(river, 0, 0, (water,))], [-2, -1, 0])

    def test_kept_exactly_if_the_game_is_won(self):
        choice = random.Random(2)
        seen = {True: 0, False: 0}
        for _ in range(40):
            river = some_river(choice)
            size = len(cells_of(river.lags))
            first = choice.randint(0, 2)
            last = first + choice.randint(0, 3 - size if size < 3 else 1)
            known = {}
            for water in choice.sample(waters(size, -1, 3), min(5 ** size, 15)):
                won = can_win(river, first, last, water, known)
                self.assertIs(can_keep(river, first, last, water), won)
                seen[won] += 1
        self.assertGreater(min(seen.values()), 50)

    def test_errors(self):
        river = plain_river()
        for thing in [None, river.day_on(0), [river.day_on(0)], True]:
            with self.assertRaises(BadRiver):
                tables(thing, None, None)
            with self.assertRaises(BadRiver):
                can_keep(thing, None, None, None)
        for first, last in WRONG_STRETCHES:
            with self.assertRaises(BadNumber):
                tables(river, first, last)
            with self.assertRaises(BadNumber):
                can_keep(river, first, last, None)
        self.assertEqual(len(tables(river, 3, 42)), 40)
        for water in [None, (), (1, 2), [1], (True,), 1, {}, Table(1)]:
            with self.assertRaises(BadWater):
                can_keep(river=river, first=0, last=0, water=water)


class ReleasesTest(unittest.TestCase):
    def test_least_and_greatest_against_all(self):
        choice = random.Random(3)
        seen = {True: 0, False: 0}
        for _ in range(40):
            river = some_river(choice)
            size, places = len(cells_of(river.lags)), len(river.lags)
            first = choice.randint(0, 2)
            last = first + choice.randint(0, 2)
            morning, after = tables(river, first, last)[0]
            day = river.day_on(first)
            for water in choice.sample(waters(size, -1, 3), 5):
                row = choice.choice(rows_of(day))
                good = [told for told in all_releases(day, water, row) if after.fits(evening(day, water, row, told))]
                found = releases_for(river, first, last, water, row)
                seen[bool(good)] += 1
                if morning.fits(water):
                    self.assertIsNotNone(found)
                if not good:
                    self.assertIsNone(found)
                    continue
                self.assertEqual(found, (tuple(min(told[at] for told in good) for at in range(places)),
                                         tuple(max(told[at] for told in good) for at in range(places))))
                for told in all_releases(day, water, row)[:30]:
                    self.assertIs(is_keeping(river, first, last, water, row, list(told)), told in good)
        self.assertGreater(min(seen.values()), 20)

    def test_a_place_without_a_greatest_release(self):
        day = Day([0], [(1, None)], rain_between([0], [3]), None, Table(1, {(1, 0): 5}))
        river = River([day])
        self.assertEqual(releases_for(river, 0, 3, (20,), (2,)), ((17,), (19,)))
        self.assertIsNone(releases_for(river, 0, 3, (0,), (0,)))
        self.assertEqual(releases_for(river, 0, 0, (0,), (1,)), ((1,), (1,)))
        self.assertTrue(is_keeping(river, 0, 0, (0,), (1,), [1]))
        self.assertFalse(is_keeping(river, 0, 0, (0,), (1,), [2]))

    def test_nothing_keeps(self):
        river = River([plain_river().day_on(0).with_marks(nothing(1))])
        self.assertIsNone(releases_for(river, 0, 3, (1,), (0,)))
        self.assertIs(is_keeping(river, 0, 3, (1,), (0,), [0]), False)

    def test_blind_play_with_least_or_greatest_releases_stays_sound(self):
        choice = random.Random(4)
        river = long_river()
        water = (4, 2, 3)
        self.assertTrue(can_keep(river, 0, 39, water))
        for number in range(40):
            day = river.day_on(number)
            row = choice.choice(rows_of(day))
            told = choice.choice(releases_for(river=river, first=number, last=39, water=water, row=row))
            water = evening(day, water, row, told)
            self.assertTrue(is_sound(day, water))

    def test_errors(self):
        river = plain_river()
        calls = [lambda *told: releases_for(*told), lambda *told: is_keeping(*told, None)]
        for call in calls:
            with self.assertRaises(BadRiver):
                call(None, None, None, None, None)
            for first, last in WRONG_STRETCHES:
                with self.assertRaises(BadNumber):
                    call(river, first, last, None, None)
            for water in [None, (1, 2), [1], (True,)]:
                with self.assertRaises(BadWater):
                    call(river, 0, 1, water, None)
            for row in [None, (4,), (-1,), [1], (True,), (1, 1), 1]:
                with self.assertRaises(BadRow):
                    call(river, 0, 1, (1,), row)
        for releases in [None, [], [3], [-1], [True], [0, 0], "0", {0: 0}]:
            with self.assertRaises(BadReleases):
                is_keeping(river, 0, 1, (1,), (0,), releases)


class LedTest(unittest.TestCase):
    def setUp(self):
        self.river = long_river()
        self.found = tables(self.river, 1, 4)

    def judged(self, thing):
        return is_led(self.river, 1, 4, thing)

    def exchanged(self, day, part, table):
        found = [list(pair) for pair in self.found]
        found[day][part] = table
        return [tuple(pair) for pair in found]

    def test_what_tables_tells(self):
        self.assertFalse(is_empty(self.found[0][0]))
        self.assertIs(self.judged(self.found), True)
        self.assertIs(is_led(river=self.river, first=4, last=7, thing=tuple(self.found)), True)
        choice = random.Random(5)
        for _ in range(20):
            river = some_river(choice)
            self.assertTrue(is_led(river, 2, 5, tables(river, 2, 5)))
            size = len(cells_of(river.lags))
            self.assertTrue(is_led(river, 2, 5, [(nothing(size), nothing(size))] * 4))

    def test_narrowed_and_widened(self):
        for day in range(4):
            for part in (0, 1):
                table = self.found[day][part]
                for pair in table.bounds:
                    wider = Table(3, {**table.bounds, pair: table.bounds[pair] + 1})
                    if closed(wider) != table:
                        self.assertIs(self.judged(self.exchanged(day, part, wider)), False, (day, part, pair))
        # A lesser first morning is led still; a lesser evening must take what leads to it along.
        morning = both(self.found[0][0], Table(3, {(1, 0): 3}))
        self.assertTrue(self.judged(self.exchanged(0, 0, morning)))
        self.assertTrue(self.judged(self.exchanged(0, 0, nothing(3))))
        evening_less = both(self.found[0][1], Table(3, {(1, 0): 0, (3, 0): 1}))
        self.assertFalse(self.judged(self.exchanged(0, 1, evening_less)))
        self.assertFalse(self.judged(self.exchanged(2, 0, nothing(3))))

    def test_tables_that_say_the_same(self):
        table = self.found[1][0]
        for pair in table.bounds:
            fewer = Table(3, {other: most for other, most in table.bounds.items() if other != pair})
            self.assertIs(self.judged(self.exchanged(1, 0, fewer)), closed(fewer) == table)

    def test_forms(self):
        found = self.found
        wrong = [found[:3], [*found, found[3]], [list(pair) for pair in found], [(*pair, pair[0]) for pair in found],
                 [(pair[0],) for pair in found], [found[1], found[0], *found[2:]], found[::-1],
                 [*found[:3], (found[3][0], None)], [*found[:3], None], [*found[:3], (None, found[3][1])],
                 [*found[:3], (found[3][0], hidden(found[3][1], (1,)))], [pair[0] for pair in found], {}, [],
                 {at: pair for at, pair in enumerate(found)}, [(pair[1], pair[0]) for pair in found],
                 [(pair[0].bounds, pair[1].bounds) for pair in found]]
        for thing in [*wrong, *any_values()]:
            self.assertIs(self.judged(thing), False)

    def test_what_is_led_can_be_kept(self):
        choice = random.Random(6)
        for _ in range(15):
            river = some_river(choice)
            size = len(cells_of(river.lags))
            after = both(river.day_on(0).sound, some_table(choice, size, 0, 3, 0.3))
            led = [(before(river.day_on(0), after), after)]
            self.assertTrue(is_led(river, 0, 0, led))
            for water in fitting(led[0][0], -1, 2)[:5]:
                self.assertTrue(can_win(river, 0, 0, water, {}))

    def test_errors(self):
        with self.assertRaises(BadRiver):
            is_led(None, None, None, None)
        for first, last in WRONG_STRETCHES:
            with self.assertRaises(BadNumber):
                is_led(self.river, first, last, self.found)
