"""What may safely be taken: point 80."""

import random
import unittest
from itertools import permutations

from blindweirs.days import Day, River, cells_of, rain_between
from blindweirs.errors import (BadNumber, BadPlace, BadPlaces, BadRights, BadRiver, BadRow, BadWater)
from blindweirs.kept import can_keep
from blindweirs.letting import safe_most, safe_row, told_river, younger
from blindweirs.rights import Rights, river_of
from blindweirs.tables import Table
from brute import can_win, rows_of, some_river, waters

MILL, FARM, TOWN = ("mill", 0, 1, 2), ("farm", 0, 0, 1), ("town", 0, 1, 1)
WRONG_STRETCHES = [(-1, 0), (True, 1), (None, 0), (0, -1), (2, 1), (0, True), (0, 40), (0, "1")]
FAR = Rights([("a", 0, 0, 1), ("b", 1, 10 ** 7, 1)])


def plain_river():
    return River([Day([0], [(0, 2)], rain_between([0], [3]), None, Table(1, {(1, 0): 5}))])


def two_places():
    marks = Table(2, {(1, 0): 5, (2, 1): 5})
    return River([Day([0, 0], [(0, 2), (0, 2)], rain_between([0, 0], [3, 1]), [1, 0], marks)])


def some_claim(choice, name, river, days):
    return (name, choice.randrange(len(river.lags)), choice.randrange(days), choice.randint(1, 2))


def some_case(choice):
    """A river, rights, a stretch, a water and a row."""
    river = some_river(choice)
    rights = Rights([some_claim(choice, sign, river, 3) for sign in "cdab"[:choice.randint(0, 4)]])
    first = choice.randint(0, 2)
    last = first + choice.randint(0, 2)
    water = choice.choice(waters(len(cells_of(river.lags)), 0, 4))
    return river, rights, first, last, water, choice.choice(rows_of(river.day_on(first)))


def some_safe_case(choice):
    while True:
        told = some_case(choice)
        if is_safe(*told, {}):
            return told


def is_safe(river, rights, first, last, water, row, taken):
    """By the words: whether the river with these numbers more in the takes of the first day can be kept."""
    days = list(river_of(river, rights, rights.names, first, last).days)
    takes = [take + taken.get(place, 0) for place, take in enumerate(days[0].takes)]
    days[0] = days[0].with_rain(rain_between(row, row)).with_takes(takes)
    return can_keep(River(days), 0, last - first, water)


def greatest(river, rights, first, last, water, row, taken, place):
    """The greatest safe number by trying one after the other; None if 0 is not safe."""
    found = None
    for number in range(sum(water) + sum(row) + 2):
        if not is_safe(river, rights, first, last, water, row, {**taken, place: number}):
            break
        found = number
    return found


class ToldRiverTest(unittest.TestCase):
    def test_the_first_day_alone(self):
        day = two_places().day_on(0)
        river = River([day, day.with_takes([2, 7])])
        rights = Rights([("a", 1, 2, 4), ("b", 0, 4, 5), ("c", 1, 3, 6)])
        found = told_river(river, rights, 2, 5, (3, 0), 0, 8)
        self.assertEqual([one.takes for one in found.days], [(9, 4), (2, 13), (6, 0), (2, 7)])
        self.assertEqual([one.rain for one in found.days], [rain_between([3, 0], [3, 0])] + [day.rain] * 3)
        self.assertEqual([one.with_rain(day.rain).with_takes(None) for one in found.days], [day.with_takes(None)] * 4)

    def test_one_day_that_comes_again(self):
        found = told_river(plain_river(), Rights(), 0, 3, (1,), 0, 0)
        self.assertEqual(len(found), 4)
        self.assertEqual(found.days[0], plain_river().day_on(0).with_rain(rain_between([1], [1])))
        self.assertEqual(found.days[1:], plain_river().days * 3)

    def test_places_and_numbers(self):
        river = two_places()
        for place, number, takes in [(0, 0, (1, 0)), (1, 0, (1, 0)), (0, 10 ** 12, (10 ** 12 + 1, 0)), (1, 3, (1, 3))]:
            found = told_river(river=river, rights=Rights(), first=0, last=0, row=(0, 1), place=place, number=number)
            self.assertEqual(found.days[0].takes, takes)
            self.assertEqual(len(found), 1)

    def test_errors(self):
        river, rights = plain_river(), Rights([MILL])
        with self.assertRaises(BadRiver):
            told_river(None, None, None, None, None, None, None)
        for thing in [None, (), [MILL], FAR]:
            with self.assertRaises(BadRights) as caught:
                told_river(river, thing, None, None, None, None, None)
            self.assertIsNone(caught.exception.at)
        for first, last in WRONG_STRETCHES:
            with self.assertRaises(BadNumber):
                told_river(river, rights, first, last, None, None, None)
        for row in [None, (), (1, 0), [1], (4,), (-1,), (True,), 1, "1"]:
            with self.assertRaises(BadRow):
                told_river(river, rights, 0, 1, row, None, None)
        for place in [None, -1, 1, True, "0", (0,)]:
            with self.assertRaises(BadPlace):
                told_river(river, rights, 0, 1, (1,), place, None)
        for number in [None, -1, True, "0", (0,)]:
            with self.assertRaises(BadNumber):
                told_river(river, rights, 0, 1, (1,), 0, number)

    def test_the_row_is_one_of_the_first_day(self):
        day = plain_river().day_on(0)
        river = River([day, day.with_rain(rain_between([7], [8]))])
        self.assertEqual(told_river(river, Rights(), 3, 3, (8,), 0, 0).days[0].rain, rain_between([8], [8]))
        for first, row in [(0, (8,)), (2, (7,)), (1, (3,))]:
            with self.assertRaises(BadRow):
                told_river(river, Rights(), first, first, row, 0, 0)


class SafeMostTest(unittest.TestCase):
    def test_one_reservoir(self):
        river = plain_river()
        self.assertEqual([safe_most(river, Rights(), 0, 1, (3,), (come,), 0) for come in range(4)], [3, 4, 5, 6])
        self.assertEqual(safe_most(river, Rights([MILL]), 0, 1, (3,), (0,), 0), 1)
        self.assertEqual(safe_most(river, Rights([MILL, FARM]), 0, 1, (3,), (0,), 0), 0)
        self.assertIsNone(safe_most(river, Rights([MILL, FARM]), 0, 1, (2,), (0,), 0))
        self.assertEqual(safe_most(river, Rights([("mill", 0, 9, 2)]), 0, 1, (3,), (0,), 0), 3)

    def test_safe_though_0_is_not(self):
        river = plain_river()
        self.assertIsNone(safe_most(river, Rights(), 0, 1, (6,), (3,), 0))
        self.assertFalse(is_safe(river, Rights(), 0, 1, (6,), (3,), {0: 2}))
        self.assertTrue(is_safe(river, Rights(), 0, 1, (6,), (3,), {0: 3}))
        self.assertIsNone(safe_row(river, Rights(), 0, 1, (6,), (3,), [0]))

    def test_against_trying_numbers(self):
        choice = random.Random(80)
        seen = {}
        for _ in range(150):
            told = some_case(choice)
            for place in range(len(told[0].lags)):
                found = safe_most(*told, place)
                self.assertEqual(found, greatest(*told, {}, place))
                seen[found] = True
        self.assertGreater(len(seen), 4)
        self.assertIn(None, seen)

    def test_what_is_safe_wins_the_game(self):
        choice = random.Random(81)
        for _ in range(25):
            river, rights, first, last, water, row = told = some_case(choice)
            if len(water) > 2 or last > first + 1:
                continue
            place = choice.randrange(len(river.lags))
            found = safe_most(*told, place)
            for number in [0] if found is None else [found, found + 1]:
                becoming = told_river(river, rights, first, last, row, place, number)
                self.assertEqual(can_win(becoming, 0, last - first, water, {}), number == found)

    def test_errors(self):
        river, rights = plain_river(), Rights([MILL])
        for call in [safe_most, safe_row]:
            with self.assertRaises(BadRiver):
                call(None, None, None, None, None, None, None)
            for thing in [None, (), [MILL], FAR]:
                with self.assertRaises(BadRights) as caught:
                    call(river, thing, None, None, None, None, None)
                self.assertIsNone(caught.exception.at)
            for first, last in WRONG_STRETCHES:
                with self.assertRaises(BadNumber):
                    call(river, rights, first, last, None, None, None)
            for water in [None, (), (1, 2), [1], (True,)]:
                with self.assertRaises(BadWater):
                    call(river, rights, 0, 1, water, None, None)
            for row in [None, (), (1, 0), [1], (4,), (-1,)]:
                with self.assertRaises(BadRow):
                    call(river, rights, 0, 1, (3,), row, None)
        for place in [None, -1, 1, True, "0", (0,), [0]]:
            with self.assertRaises(BadPlace):
                safe_most(river, rights, 0, 1, (9,), (0,), place)
        self.assertEqual(safe_most(river=river, rights=rights, first=0, last=1, water=(3,), row=(0,), place=0), 1)


class SafeRowTest(unittest.TestCase):
    def test_one_behind_the_other(self):
        river = two_places()
        self.assertEqual(safe_row(river, Rights(), 0, 0, (3, 1), (0, 0), [0, 1]), [2, 1])
        self.assertEqual(safe_row(river, Rights(), 0, 0, (3, 1), (0, 0), [1, 0]), [3, 0])
        self.assertEqual(safe_row(river, Rights(), 0, 0, (3, 1), (0, 0), (1,)), [3])

    def test_no_places(self):
        river = two_places()
        for order in [[], ()]:
            self.assertEqual(safe_row(river, Rights(), 0, 0, (3, 1), (0, 0), order), [])
            self.assertIsNone(safe_row(river, Rights(), 0, 0, (0, 1), (0, 0), order))

    def test_against_trying_numbers(self):
        choice = random.Random(82)
        many = 0
        for at in range(120):
            told = some_safe_case(choice) if at < 60 else some_case(choice)
            places = list(range(len(told[0].lags)))
            order = list(choice.choice(list(permutations(places, choice.randint(1, len(places))))))
            found = safe_row(*told, order)
            if not is_safe(*told, {}):
                self.assertIsNone(found)
                continue
            taken = {}
            for place in order:
                taken[place] = greatest(*told, taken, place)
            self.assertEqual(found, [taken[place] for place in order])
            many += len(order) > 1
        self.assertGreater(many, 10)

    def test_wrong_places(self):
        river = two_places()
        for order in [None, 0, "01", {0: 1}, [2], [-1], [0, 0], [1, 0, 1], [True], [0, False], [None], [[0]], ["0"], [(0,)]]:
            with self.assertRaises(BadPlaces):
                safe_row(river, Rights(), 0, 0, (0, 0), (0, 0), order)
        self.assertEqual(safe_row(river=river, rights=Rights(), first=0, last=0, water=(3, 1), row=(0, 0), order=[1]), [3])


class YoungerTest(unittest.TestCase):
    def test_one_reservoir(self):
        river = plain_river()
        rights = Rights([("a", 0, 0, 1), ("b", 0, 0, 2), ("c", 0, 0, 1), ("d", 0, 1, 1)])
        for number, names in [(0, ("a", "b", "c")), (1, ("b", "c")), (2, ("c",)), (3, ()), (4, ())]:
            self.assertEqual(younger(river, rights, number, 0, 1, (5,), (0,)), names)
        self.assertEqual([younger(river, rights, number, 0, 1, (3,), (0,)) for number in range(5)],
                         [("a", "b"), ("b",), (), None, None])

    def test_between_some_that_are_served(self):
        river = plain_river()
        rights = Rights([("a", 0, 0, 1), ("b", 0, 0, 4), ("c", 0, 1, 9), ("d", 0, 0, 2), ("e", 0, 0, 1)])
        self.assertEqual(younger(river, rights, 0, 0, 1, (3,), (0,)), ("a", "d"))
        self.assertEqual(younger(river, rights, 1, 0, 1, (4,), (0,)), ("d", "e"))
        self.assertEqual(younger(river, rights, 1, 0, 1, (3,), (0,)), ("d",))
        # The further right of the second day has no meaning, but as one of the first ones it cannot be kept.
        self.assertEqual(younger(river, rights, 2, 0, 1, (6,), (0,)), ("e",))
        self.assertIsNone(younger(river, rights, 3, 0, 1, (5,), (0,)))

    def test_today_is_the_first_day(self):
        rights = Rights([("a", 0, 0, 1), ("b", 0, 1, 1), ("c", 0, 2, 1)])
        for first, names in [(0, ("a",)), (1, ("b",)), (2, ("c",)), (3, ())]:
            self.assertEqual(younger(plain_river(), rights, 0, first, first + 1, (3,), (0,)), names)

    def test_too_much_water(self):
        self.assertIsNone(younger(plain_river(), Rights([("a", 0, 0, 4)]), 0, 0, 1, (6,), (3,)))
        self.assertEqual(younger(plain_river(), Rights([("a", 0, 0, 4)]), 1, 0, 1, (6,), (3,)), ())

    def test_against_the_words(self):
        choice = random.Random(83)
        seen = {}
        for at in range(150):
            river, rights, first, last, water, row = some_safe_case(choice) if at < 75 else some_case(choice)
            number = choice.randint(0, len(rights))
            found = younger(river, rights, number, first, last, water, row)
            kept = Rights(rights.rights[:number])
            told = (river, kept, first, last, water, row)
            if not is_safe(*told, {}):
                self.assertIsNone(found)
                continue
            served, taken = [], {}
            for name, place, day, amount in rights.rights[number:]:
                more = {**taken, place: taken.get(place, 0) + amount}
                if day == first and is_safe(*told, more):
                    served.append(name)
                    taken = more
            self.assertEqual(found, tuple(served))
            seen[len(served)] = True
        self.assertGreater(len(seen), 2)

    def test_errors(self):
        river, rights = plain_river(), Rights([MILL, FARM])
        with self.assertRaises(BadRiver):
            younger(None, None, None, None, None, None, None)
        for thing in [None, (), [MILL], FAR]:
            with self.assertRaises(BadRights) as caught:
                younger(river, thing, None, None, None, None, None)
            self.assertIsNone(caught.exception.at)
        for number in [None, -1, 3, True, "0"]:
            for more in [(None, None, None, None), (0, 1, (3,), (0,))]:
                with self.assertRaises(BadNumber):
                    younger(river, rights, number, *more)
        for first, last in WRONG_STRETCHES:
            with self.assertRaises(BadNumber):
                younger(river, rights, 0, first, last, None, None)
        for water in [None, (), (1, 2), [1], (True,)]:
            with self.assertRaises(BadWater):
                younger(river, rights, 2, 0, 1, water, None)
        for row in [None, (), (1, 0), [1], (4,), (-1,)]:
            with self.assertRaises(BadRow):
                younger(river, rights, 2, 0, 1, (9,), row)
        self.assertEqual(younger(river=river, rights=rights, number=1, first=0, last=1, water=(3,), row=(0,)), ("farm",))
