"""Rights that are sure: points 60 and 61."""

import random
import unittest
from itertools import combinations

from blindweirs.days import Day, River, cells_of, rain_between
from blindweirs.errors import (BadLot, BadName, BadNumber, BadRight, BadRights, BadRiver, BadWater, TooMany)
from blindweirs.kept import can_keep, tables
from blindweirs.rights import (Rights, chosen_lot, is_claim, is_sure, river_of, sure_lots, sure_number, sure_table)
from blindweirs.tables import Table, closed, nothing
from brute import any_values, can_win, some_river, waters

MILL, FARM, TOWN = ("mill", 0, 1, 2), ("farm", 0, 0, 1), ("town", 0, 1, 1)
WRONG_STRETCHES = [(-1, 0), (True, 1), (None, 0), (0, -1), (2, 1), (0, True), (0, 40), (0, "1")]


def plain_river():
    return River([Day([0], [(0, 2)], rain_between([0], [3]), None, Table(1, {(1, 0): 5}))])


def many_rights(many):
    return Rights([(sign, 0, at, 1) for at, sign in enumerate("abcdefgh"[:many])])


def some_rights(choice, river, many, days):
    return Rights([(sign, choice.randrange(len(river.lags)), choice.randrange(days), choice.randint(1, 2))
                   for sign in "cadbfe"[:many]])


class ClaimTest(unittest.TestCase):
    def test_rights(self):
        for thing in [("a", 0, 0, 1), ("abcdef", 4, 10 ** 7, 10 ** 12), ("zzz", 2, 3, 4)]:
            self.assertIs(is_claim(thing), True)

    def test_no_rights(self):
        wrong = [("", 0, 0, 1), ("abcdefg", 0, 0, 1), ("A", 0, 0, 1), ("a1", 0, 0, 1), ("a b", 0, 0, 1), ("a\n", 0, 0, 1),
                 ("\u00e9", 0, 0, 1), ("\u00df", 0, 0, 1), (None, 0, 0, 1), (("a",), 0, 0, 1), ("a", -1, 0, 1),
                 ("a", 5, 0, 1), ("a", True, 0, 1), ("a", 0, -1, 1), ("a", 0, False, 1), ("a", 0, None, 1), ("a", 0, 0, 0),
                 ("a", 0, 0, -1), ("a", 0, 0, True), ("a", 0, 0, "1"), ["a", 0, 0, 1], ("a", 0, 0), ("a", 0, 0, 1, 0),
                 "a001", {"a": 1}, (["a"], 0, 0, 1)]
        for thing in [*wrong, *any_values()]:
            self.assertIs(is_claim(thing), False, thing)
            if thing is not None:
                with self.assertRaises(BadRights) as caught:
                    Rights([MILL, thing])
                self.assertEqual(caught.exception.at, 1)


class RightsTest(unittest.TestCase):
    def test_properties(self):
        told = [MILL, FARM]
        rights = Rights(told)
        told.append(TOWN)
        self.assertEqual(rights.rights, (MILL, FARM))
        self.assertEqual(rights.names, ("mill", "farm"))
        self.assertEqual(len(rights), 2)
        self.assertEqual((Rights().rights, Rights().names, len(Rights())), ((), (), 0))
        self.assertEqual(Rights(rights=(MILL, FARM)), rights)
        self.assertEqual(len(many_rights(8)), 8)

    def test_equality(self):
        self.assertEqual(Rights(), Rights([]))
        self.assertNotEqual(Rights([MILL, FARM]), Rights([FARM, MILL]))
        self.assertNotEqual(Rights([MILL]), Rights([("mill", 0, 1, 3)]))
        for thing in [None, 0, (), (MILL,), [MILL], "mill"]:
            self.assertFalse(Rights([MILL]) == thing)
            self.assertFalse(Rights() == thing)
        for rights in [Rights(), Rights([MILL])]:
            with self.assertRaises(TypeError):
                iter(rights)

    def test_wrong_rights(self):
        for thing in [None, 0, "", "mill", {}, {0: MILL}, True, Rights(), 3]:
            with self.assertRaises(BadRights) as caught:
                Rights(thing)
            self.assertIsNone(caught.exception.at)
        eight = list(many_rights(8).rights)
        for thing, at in [([None], 0), ([MILL, FARM, ("mill", 4, 4, 4)], 2), ([MILL, None, MILL], 1), (MILL, 0),
                          ([*eight, MILL, None], 9), ([*eight, eight[0]], 8), ([[*MILL]], 0)]:
            with self.assertRaises(BadRights) as caught:
                Rights(thing)
            self.assertEqual(caught.exception.at, at)
        with self.assertRaises(TooMany) as caught:
            Rights([*eight, MILL])
        self.assertEqual(caught.exception.most, 8)

    def test_right_and_elders(self):
        rights = Rights([MILL, FARM, TOWN])
        self.assertEqual([rights.right(name) for name in rights.names], [MILL, FARM, TOWN])
        self.assertEqual(rights.elders("mill"), ("mill",))
        self.assertEqual(rights.elders(name="town"), ("mill", "farm", "town"))
        for name in ["", "mil", "Mill", None, 0, True, ("mill",), ["mill"], {}, MILL, rights]:
            for call in [rights.right, rights.elders, rights.without]:
                with self.assertRaises(BadName) as caught:
                    call(name)
                self.assertEqual(caught.exception.name, name)
        with self.assertRaises(BadName):
            Rights().right("mill")

    def test_with_right(self):
        rights = Rights([MILL, FARM])
        self.assertEqual(rights.with_right(0, TOWN).rights, (TOWN, MILL, FARM))
        self.assertEqual(rights.with_right(1, TOWN).rights, (MILL, TOWN, FARM))
        self.assertEqual(rights.with_right(at=2, right=TOWN).rights, (MILL, FARM, TOWN))
        self.assertEqual(rights.rights, (MILL, FARM))
        for at in [-1, 3, True, None, "0", (0,)]:
            with self.assertRaises(BadNumber):
                rights.with_right(at, None)
        for right in [None, (), [*TOWN], ("town", 0, 1, 0), ("town", 5, 1, 1), ("mill", 3, 3, 3), FARM, "town"]:
            with self.assertRaises(BadRight):
                rights.with_right(0, right)
        full = many_rights(8)
        self.assertEqual(len(full.without("c").with_right(7, MILL)), 8)
        with self.assertRaises(BadNumber):
            full.with_right(9, None)
        for right in [None, full.rights[0]]:
            with self.assertRaises(BadRight):
                full.with_right(8, right)
        with self.assertRaises(TooMany) as caught:
            full.with_right(8, MILL)
        self.assertEqual(caught.exception.most, 8)

    def test_without_and_moved(self):
        rights = Rights([MILL, FARM, TOWN])
        self.assertEqual(rights.without(name="farm").rights, (MILL, TOWN))
        self.assertEqual(Rights([MILL]).without("mill"), Rights())
        self.assertEqual(rights.moved("town", 0).rights, (TOWN, MILL, FARM))
        self.assertEqual(rights.moved("mill", 1).rights, (FARM, MILL, TOWN))
        self.assertEqual(rights.moved(name="mill", at=2).rights, (FARM, TOWN, MILL))
        self.assertEqual(rights.moved("farm", 1), rights)
        self.assertEqual(many_rights(8).moved("a", 7).names, tuple("bcdefgha"))
        self.assertEqual(Rights([MILL]).moved("mill", 0), Rights([MILL]))
        with self.assertRaises(BadName) as caught:
            rights.moved("river", None)
        self.assertEqual(caught.exception.name, "river")
        for at in [-1, 3, True, None, "0"]:
            with self.assertRaises(BadNumber):
                rights.moved("mill", at)
        with self.assertRaises(BadNumber):
            Rights([MILL]).moved("mill", 1)


class RiverOfTest(unittest.TestCase):
    def setUp(self):
        dry = rain_between([0, 0], [0, 0])
        self.days = [Day([1, 0], [(0, most), (0, 9)], dry, [most, 0]) for most in range(3)]
        self.river = River(self.days)
        self.rights = Rights([("a", 0, 4, 5), ("b", 1, 4, 6), ("c", 0, 4, 7), ("d", 1, 6, 8), ("e", 0, 0, 9)])

    def test_takes(self):
        found = river_of(self.river, self.rights, ("a", "b", "c", "d", "e"), 4, 7)
        self.assertEqual([day.takes for day in found.days], [(1 + 12, 6), (2, 0), (0, 8), (1, 0)])
        self.assertEqual([day.outlets for day in found.days],
                         [self.days[number].outlets for number in (1, 2, 0, 1)])
        found = river_of(river=self.river, rights=self.rights, lot=("b", "d"), first=4, last=7)
        self.assertEqual([day.takes for day in found.days], [(1, 6), (2, 0), (0, 8), (1, 0)])
        self.assertEqual(river_of(self.river, self.rights, (), 3, 5), self.river)

    def test_rights_on_days_beyond_the_stretch(self):
        lot = self.rights.names
        self.assertEqual(river_of(self.river, self.rights, lot, 1, 3).days,
                         (self.days[1], self.days[2], self.days[0]))
        # Day 0 is a day of the river as day 3 is, but the right is on day 0 alone.
        self.assertEqual(river_of(self.river, self.rights, ("e",), 3, 3).days, (self.days[0],))
        self.assertEqual(river_of(self.river, self.rights, ("e",), 0, 0).days[0].takes, (9, 0))

    def test_long_stretches(self):
        found = river_of(self.river, self.rights, ("a",), 0, 39)
        self.assertEqual(len(found), 40)
        self.assertEqual([at for at, day in enumerate(found.days) if day != self.river.day_on(at)], [4])

    def test_lots(self):
        for lot in [None, [], ["a"], ("b", "a"), ("a", "a"), ("f",), ("a", None), "ab", "a", {}, {"a": 1}, (0,),
                    (("a",),), ("a", "f"), 0, self.rights, (self.rights,)]:
            for call in [river_of, sure_table]:
                with self.assertRaises(BadLot):
                    call(self.river, self.rights, lot, None, None)
        with self.assertRaises(BadLot):
            river_of(self.river, Rights(), ("a",), 0, 0)

    def test_order_of_errors(self):
        far = Rights([("a", 0, 0, 1), ("b", 2, 10 ** 7, 1)])
        for call in [river_of, sure_table]:
            with self.assertRaises(BadRiver):
                call(None, None, None, None, None)
            for rights in [None, (), [], (("a", 0, 0, 1),), far]:
                with self.assertRaises(BadRights) as caught:
                    call(self.river, rights, None, None, None)
                self.assertIsNone(caught.exception.at)
            for first, last in WRONG_STRETCHES:
                with self.assertRaises(BadNumber):
                    call(self.river, self.rights, ("a",), first, last)


class SureTest(unittest.TestCase):
    def setUp(self):
        self.river = plain_river()
        self.rights = Rights([MILL, FARM])

    def test_example(self):
        self.assertEqual(sure_number(self.river, self.rights, 0, 1, (2,)), 1)
        self.assertEqual(sure_lots(self.river, self.rights, 0, 1, (2,)), [("farm",), ("mill",)])
        self.assertEqual(chosen_lot(self.river, self.rights, 0, 1, (2,)), ("mill",))
        self.assertEqual(sure_lots(self.river, self.rights, 0, 1, (3,)), [("mill", "farm")])

    def test_a_lot_within_a_sure_one_that_is_not_sure(self):
        # From 5 the river overflows, unless enough is taken.
        self.assertFalse(can_keep(self.river, 0, 1, (5,)))
        self.assertEqual(sure_lots(self.river, self.rights, 0, 1, (5,)), [("mill", "farm")])
        for lot in [(), ("mill",), ("farm",)]:
            self.assertFalse(sure_table(self.river, self.rights, lot, 0, 1).fits((5,)))
        rights = Rights([("a", 0, 0, 1), ("b", 0, 0, 2), ("c", 0, 0, 4)])
        self.assertEqual(sure_lots(self.river, rights, 0, 1, (5,)), [("a", "b"), ("a", "c")])
        self.assertEqual(chosen_lot(self.river, rights, 0, 1, (5,)), ("a", "b"))
        self.assertIs(is_sure(self.river, rights, "a", 0, 1, (5,)), False)
        self.assertIs(is_sure(self.river, rights, "b", 0, 1, (5,)), True)

    def test_a_number_though_a_lesser_one_does_not_do(self):
        rights = Rights([("a", 0, 0, 1), ("b", 0, 0, 2), ("c", 0, 0, 4)])
        self.assertEqual(sure_number(self.river, rights, 0, 1, (5,)), 2)
        self.assertFalse(is_sure(self.river, rights, "c", 0, 1, (5,)))
        self.assertEqual(sure_number(self.river, rights, 0, 1, (0,)), 0)
        self.assertIsNone(sure_number(self.river, rights, 0, 1, (-1,)))
        self.assertIsNone(sure_number(self.river, rights, 0, 1, (11,)))
        self.assertEqual(sure_number(self.river, Rights(), 0, 1, (3,)), 0)

    def test_the_ranks_choose(self):
        for rights, lot in [([MILL, FARM, TOWN], ("mill",)), ([FARM, TOWN, MILL], ("farm", "town")),
                            ([TOWN, MILL, FARM], ("town", "farm")), ([FARM, MILL, TOWN], ("farm", "town"))]:
            self.assertEqual(chosen_lot(self.river, Rights(rights), 0, 1, (2,)), lot)
        self.assertEqual(chosen_lot(self.river, self.rights, 0, 1, (0,)), ())
        self.assertEqual(sure_lots(self.river, self.rights, 0, 1, (0,)), [()])
        self.assertEqual(chosen_lot(self.river, Rights(), 0, 1, (0,)), ())
        self.assertIsNone(chosen_lot(self.river, self.rights, 0, 1, (9,)))
        self.assertIsNone(chosen_lot(self.river, self.rights, 0, 1, (-1,)))

    def test_the_choice_against_the_words(self):
        choice = random.Random(1)
        seen = {}
        for _ in range(60):
            river = some_river(choice)
            rights = some_rights(choice, river, choice.randint(0, 4), 4)
            first = choice.randint(0, 2)
            last = first + choice.randint(0, 2)
            water = choice.choice(waters(len(cells_of(river.lags)), 0, 3))
            names = rights.names
            lots = [lot for many in range(len(names) + 1) for lot in combinations(names, many)]
            sure = [lot for lot in lots if sure_table(river, rights, lot, first, last).fits(water)]
            tops = sorted(lot for lot in sure if not any(set(lot) < set(other) for other in sure))
            self.assertEqual(sure_lots(river, rights, first, last, water), tops)
            numbers = [many for many in range(len(names) + 1) if names[:many] in sure]
            self.assertEqual(sure_number(river, rights, first, last, water), max(numbers, default=None))
            for at, name in enumerate(names):
                self.assertEqual(is_sure(river, rights, name, first, last, water), names[:at + 1] in sure)
            found = chosen_lot(river, rights, first, last, water)
            seen[found is None] = True
            if not sure:
                self.assertIsNone(found)
                continue
            self.assertIn(found, sure)
            for at, name in enumerate(names):
                like = [lot for lot in sure if name in lot and all((one in lot) == (one in found) for one in names[:at])]
                self.assertEqual(name in found, bool(like))
        self.assertEqual(len(seen), 2)

    def test_sure_is_the_game_won_with_all_of_the_lot_taken(self):
        choice = random.Random(2)
        for _ in range(25):
            river = some_river(choice)
            rights = some_rights(choice, river, 2, 3)
            first = choice.randint(0, 1)
            last = first + 1
            table = sure_table(river, rights, rights.names, first, last)
            self.assertEqual(closed(table), table)
            days = [river.day_on(number) for number in (first, last)]
            for _, place, day, amount in rights.rights:
                if first <= day <= last:
                    takes = list(days[day - first].takes)
                    takes[place] += amount
                    days[day - first] = days[day - first].with_takes(takes)
            known = {}
            for water in choice.sample(waters(len(cells_of(river.lags)), -1, 3), 5):
                self.assertEqual(table.fits(water), can_win(River(days), 0, 1, water, known))

    def test_sure_table(self):
        river = River([self.river.day_on(0), self.river.day_on(0).with_marks(None)])
        self.assertEqual(sure_table(river, Rights(), (), 3, 6), tables(river, 3, 6)[0][0])
        rights = Rights([MILL])
        self.assertEqual(sure_table(river=self.river, rights=rights, lot=("mill",), first=0, last=1),
                         Table(1, {(0, 1): -2, (1, 0): 4}))
        self.assertEqual(sure_table(self.river, Rights([("x", 0, 0, 9)]), ("x",), 0, 1),
                         Table(1, {(0, 1): -9, (1, 0): 12}))
        shut = River([self.river.day_on(0).with_marks(nothing(1))])
        self.assertEqual(sure_table(shut, rights, (), 0, 1), nothing(1))

    def test_rights_on_other_days_have_no_meaning(self):
        rights = Rights([("far", 0, 7, 99), FARM])
        self.assertTrue(is_sure(self.river, rights, "farm", 0, 1, (2,)))
        self.assertEqual(sure_number(self.river, rights, 0, 1, (2,)), 2)
        self.assertEqual(sure_lots(self.river, rights, 0, 1, (2,)), [("far", "farm")])
        self.assertFalse(is_sure(self.river, rights, "far", 7, 7, (2,)))

    def test_six_and_seven_rights(self):
        six, seven = many_rights(6), many_rights(7)
        calm = River([self.river.day_on(0).with_rain(rain_between([0], [2]))])
        self.assertEqual(sure_lots(calm, six, 0, 5, (2,)), sorted(combinations("abcdef", 2)))
        self.assertEqual(chosen_lot(calm, six, 0, 5, (2,)), ("a", "b"))
        self.assertEqual(sure_number(calm, seven, 0, 5, (2,)), 2)
        for call in [sure_lots, chosen_lot]:
            with self.assertRaises(TooMany) as caught:
                call(self.river, seven, 0, 5, (2,))
            self.assertEqual(caught.exception.most, 6)
            with self.assertRaises(BadWater):
                call(self.river, seven, 0, 5, (2, 0))
            with self.assertRaises(BadNumber):
                call(self.river, seven, 5, 0, (2,))
            with self.assertRaises(TooMany):
                call(river=self.river, rights=seven, first=0, last=0, water=(-1,))

    def test_errors(self):
        far = Rights([("a", 0, 0, 1), ("b", 1, 10 ** 7, 1)])
        for call in [sure_number, sure_lots, chosen_lot]:
            with self.assertRaises(BadRiver):
                call(None, None, None, None, None)
            for rights in [None, (), [MILL], far]:
                with self.assertRaises(BadRights) as caught:
                    call(self.river, rights, None, None, None)
                self.assertIsNone(caught.exception.at)
            for first, last in WRONG_STRETCHES:
                with self.assertRaises(BadNumber):
                    call(self.river, self.rights, first, last, None)
            for water in [None, (), (1, 2), [1], (True,)]:
                with self.assertRaises(BadWater):
                    call(self.river, self.rights, 0, 1, water)
        with self.assertRaises(BadRiver):
            is_sure(None, None, None, None, None, None)
        with self.assertRaises(BadRights):
            is_sure(self.river, far, None, None, None, None)
        for name in [None, "town", 0, ("mill",), ["mill"]]:
            with self.assertRaises(BadName) as caught:
                is_sure(self.river, self.rights, name, None, None, None)
            self.assertEqual(caught.exception.name, name)
        for first, last in WRONG_STRETCHES:
            with self.assertRaises(BadNumber):
                is_sure(self.river, self.rights, "mill", first, last, None)
        for water in [None, (1, 2), [1]]:
            with self.assertRaises(BadWater):
                is_sure(river=self.river, rights=self.rights, name="mill", first=0, last=1, water=water)
