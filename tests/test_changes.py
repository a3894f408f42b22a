"""Changes that injure nobody: point 70."""

import random
import unittest

from blindweirs.changes import harmless_most, injured, injury, is_injury
from blindweirs.days import Day, River, cells_of, rain_between
from blindweirs.errors import BadName, BadNumber, BadRight, BadRights, BadRiver, OtherLags, TooMany
from blindweirs.kept import can_keep
from blindweirs.reasons import book, is_book
from blindweirs.rights import Rights, river_of, sure_table
from blindweirs.tables import Table, nothing
from brute import any_values, can_win, some_day, some_river, waters

MILL, FARM, TOWN = ("mill", 0, 1, 2), ("farm", 0, 0, 1), ("town", 0, 1, 1)
WRONG_STRETCHES = [(-1, 0), (True, 1), (None, 0), (0, -1), (2, 1), (0, True), (0, 40), (0, "1")]


def plain_river():
    return River([Day([0], [(0, 2)], rain_between([0], [3]), None, Table(1, {(1, 0): 5}))])


def two_places():
    return River([Day([0, 0], [(0, 2), (0, 2)], rain_between([0, 0], [1, 1]), None, Table(2, {(1, 0): 5, (2, 1): 5}))])


def shut_river():
    return plain_river_with_marks(nothing(1))


def plain_river_with_marks(marks):
    return River([plain_river().day_on(0).with_marks(marks)])


def many_rights(many):
    return Rights([(sign, 0, at, 1) for at, sign in enumerate("abcdefgh"[:many])])


def some_claim(choice, name, river, days):
    return (name, choice.randrange(len(river.lags)), choice.randrange(days), choice.randint(1, 2))


def some_change(choice):
    """A river and rights, and what becomes of them: each changed somewhat."""
    old = some_river(choice)
    days = list(old.days)
    if choice.random() < 0.5:
        days[-1] = some_day(choice, list(old.lags))
    old_rights = Rights([some_claim(choice, sign, old, 3) for sign in "cab"[:choice.randint(1, 3)]])
    claims = [claim for claim in old_rights.rights if choice.random() < 0.9]
    if choice.random() < 0.4 and claims:
        at = choice.randrange(len(claims))
        claims[at] = some_claim(choice, claims[at][0], old, 3)
    if choice.random() < 0.4:
        claims.append(some_claim(choice, "new", old, 3))
    choice.shuffle(claims)
    return old, old_rights, River(days), Rights(claims)


class InjuredTest(unittest.TestCase):
    def check(self, old_rights, new_rights, names, old=None, new=None, last=1):
        old = plain_river() if old is None else old
        new = old if new is None else new
        told = (old, Rights(old_rights), new, Rights(new_rights), 0, last)
        self.assertEqual(injured(*told), names)
        for name in told[1].names:
            if name not in told[3].names:
                continue
            found = injury(*told, name)
            if name not in names:
                self.assertIsNone(found)
                continue
            self.assertIs(is_injury(*told, name, found), True)
            self.assertIsInstance(found, tuple)
            water, reasons = found
            was = sure_table(old, told[1], told[1].elders(name), 0, last)
            self.assertTrue(was.fits(water))
            becoming = river_of(new, told[3], told[3].elders(name), 0, last)
            self.assertFalse(can_keep(becoming, 0, last, water))
            self.assertTrue(is_book(becoming, 0, last, water, reasons))

    def test_nothing_changed(self):
        for rights in [[], [MILL], [MILL, FARM], [FARM, TOWN, MILL]]:
            self.check(rights, rights, ())

    def test_struck_and_new(self):
        # What is gone, or was not there, is no right that both have.
        self.check([MILL, FARM], [MILL], ())
        self.check([MILL, FARM], [], ())
        self.check([MILL], [MILL, FARM], ())
        self.check([], [MILL], ())
        # An elder one that is new takes the water; one that is struck leaves more, here too much for the mark.
        self.check([MILL], [FARM, MILL], ("mill",))
        self.check([FARM, MILL], [MILL], ("mill",))
        self.check([FARM, MILL], [MILL], (), plain_river_with_marks(None), plain_river_with_marks(None))

    def test_elder_and_younger(self):
        self.check([MILL, FARM], [FARM, MILL], ("mill",), plain_river_with_marks(None), plain_river_with_marks(None))
        self.check([FARM, MILL], [MILL, FARM], ("farm",), plain_river_with_marks(None), plain_river_with_marks(None))
        # With a mark less is taken ahead of the mill, too little where too much water lies.
        free = plain_river_with_marks(Table(1, {(1, 0): 50}))
        self.check([FARM, MILL], [MILL, FARM], ("farm", "mill"), free, free)
        self.check([("b", 0, 0, 1), ("a", 0, 0, 1), ("c", 0, 0, 1)], [("c", 0, 0, 1), ("b", 0, 0, 1), ("a", 0, 0, 1)],
                   ("a", "b"), plain_river_with_marks(None), plain_river_with_marks(None))

    def test_less_and_more(self):
        free = plain_river_with_marks(None)
        self.check([MILL], [("mill", 0, 1, 3)], ("mill",), free, free)
        self.check([MILL], [("mill", 0, 1, 1)], (), free, free)
        self.check([MILL], [("mill", 0, 1, 1)], ())
        self.check([("mill", 0, 0, 2)], [("mill", 0, 0, 1)], ("mill",))
        self.check([FARM, MILL], [("farm", 0, 0, 2), MILL], ("farm", "mill"), free, free)
        self.check([FARM, MILL], [("farm", 0, 0, 2), ("mill", 0, 1, 1)], ("farm",), free, free)

    def test_other_days_and_other_places(self):
        free = plain_river_with_marks(None)
        self.check([MILL], [("mill", 0, 0, 2)], ("mill",), River([free.day_on(0).with_rain(rain_between([1], [1]))]))
        self.check([MILL], [("mill", 0, 7, 2)], (), free, free)
        self.check([("mill", 0, 7, 2)], [MILL], ("mill",), free, free)
        two = River([Day([0, 0], [(0, 0), (0, 0)], rain_between([0, 0], [0, 0]))])
        self.check([("x", 0, 0, 1)], [("x", 1, 0, 1)], ("x",), two, two)
        # The names come ascending, not by rank.
        self.check([("z", 0, 0, 1), ("y", 0, 0, 1)], [("z", 1, 0, 1), ("y", 1, 0, 1)], ("y", "z"), two, two)

    def test_another_river(self):
        day = plain_river().day_on(0)
        for new, names in [(day.with_outlets([(0, 1)]), ("mill",)), (day.with_outlets([(0, 3)]), ()),
                           (day.with_rain(rain_between([0], [4])), ("mill",)), (day.with_rain(rain_between([1], [2])), ()),
                           (day.with_marks(None), ()), (day.with_marks(nothing(1)), ("mill",))]:
            self.check([MILL], [MILL], names, plain_river(), River([new]))
        self.check([MILL], [MILL], (), plain_river(), River([day, day]))

    def test_nothing_is_sure(self):
        self.check([MILL, FARM], [FARM, MILL], (), shut_river(), plain_river())
        self.check([MILL], [MILL], (), shut_river(), shut_river())
        self.check([MILL, FARM], [FARM, MILL], ("farm", "mill"), plain_river(), shut_river())

    def test_later_first_days(self):
        day = plain_river().day_on(0).with_marks(None)
        river = River([day, day.with_outlets([(1, 1)])])
        old, new = Rights([("a", 0, 6, 2)]), Rights([("a", 0, 6, 3)])
        self.assertEqual(injured(river, old, river, new, 5, 7), ("a",))
        self.assertEqual(injured(river, old, river, new, 7, 9), ())
        self.assertEqual(injured(river, old, river, new, 3, 5), ())
        found = injury(river, old, river, new, 5, 7, "a")
        self.assertTrue(is_injury(river, old, river, new, 5, 7, "a", found))
        self.assertTrue(sure_table(river, old, ("a",), 5, 7).fits(found[0]))
        self.assertTrue(is_book(river_of(river, new, ("a",), 5, 7), 0, 2, *found))
        self.assertEqual({reason[1] for reason in found[1]} - {0, 1, 2}, set())

    def test_against_all_waters(self):
        choice = random.Random(70)
        seen = {}
        for _ in range(60):
            change = some_change(choice)
            old, old_rights, new, new_rights = change
            first = choice.randint(0, 1)
            last = first + choice.randint(0, 1)
            names = injured(*change, first, last)
            common = sorted(set(old_rights.names) & set(new_rights.names))
            for name in common:
                was = sure_table(old, old_rights, old_rights.elders(name), first, last)
                now = sure_table(new, new_rights, new_rights.elders(name), first, last)
                lost = [water for water in waters(was.size, 0, 5 if was.size < 4 else 3)
                        if was.fits(water) and not now.fits(water)]
                if lost:
                    self.assertIn(name, names)
                found = injury(*change, first, last, name)
                self.assertEqual(found is None, name not in names)
                seen[found is None] = True
                if found is not None:
                    self.assertTrue(was.fits(found[0]))
                    self.assertFalse(now.fits(found[0]))
                    self.assertTrue(is_injury(*change, first, last, name, found))
                for water in lost[:2]:
                    self.assertFalse(is_injury(*change, first, last, name, (water, [])))
            self.assertEqual(sorted(set(names) & set(common)), list(names))
        self.assertEqual(len(seen), 2)

    def test_an_injury_is_a_game_that_was_won_and_is_lost(self):
        choice = random.Random(71)
        shown = 0
        while shown < 6:
            change = some_change(choice)
            for name in injured(*change, 0, 1):
                water, _ = injury(*change, 0, 1, name)
                if max(water) > 4 or len(water) > 3:
                    continue
                old, old_rights, new, new_rights = change
                self.assertTrue(can_win(river_of(old, old_rights, old_rights.elders(name), 0, 1), 0, 1, water, {}))
                self.assertFalse(can_win(river_of(new, new_rights, new_rights.elders(name), 0, 1), 0, 1, water, {}))
                shown += 1

    def test_names(self):
        river, old, new = plain_river(), Rights([MILL, FARM]), Rights([TOWN, MILL])
        for name in ["farm", "town", "", None, 0, True, ("mill",), ["mill"], {}, MILL, old]:
            for call, more in [(injury, []), (is_injury, [None])]:
                with self.assertRaises(BadName) as caught:
                    call(river, old, river, new, 0, 1, name, *more)
                self.assertEqual(caught.exception.name, name)
        self.assertEqual(injured(river, old, river, new, 0, 1), ("mill",))

    def test_by_name(self):
        told = {"old": plain_river(), "old_rights": Rights([MILL]), "new": plain_river(), "new_rights": Rights([FARM, MILL]),
                "first": 0, "last": 1}
        self.assertEqual(injured(**told), ("mill",))
        self.assertTrue(is_injury(name="mill", thing=injury(name="mill", **told), **told))

    def test_order_of_errors(self):
        river, two = plain_river(), two_places()
        far = Rights([("mill", 1, 10 ** 7, 1)])
        rights = Rights([MILL])
        for call, more in [(injured, []), (injury, [None]), (is_injury, [None, None])]:
            for thing in [None, (), Rights(), plain_river().day_on(0)]:
                with self.assertRaises(BadRiver):
                    call(thing, None, None, None, None, None, *more)
                with self.assertRaises(BadRiver):
                    call(river, rights, thing, None, None, None, *more)
            for thing in [None, (), [MILL], far, river]:
                with self.assertRaises(BadRights) as caught:
                    call(river, thing, None, None, None, None, *more)
                self.assertIsNone(caught.exception.at)
                with self.assertRaises(BadRights) as caught:
                    call(two, far, river, thing, None, None, *more)
                self.assertIsNone(caught.exception.at)
            for first, last in WRONG_STRETCHES:
                with self.assertRaises(BadNumber):
                    call(river, rights, two, far, first, last, *more)
        with self.assertRaises(OtherLags):
            injured(river, rights, two, far, 0, 1)
        for call, more in [(injury, []), (is_injury, [None])]:
            with self.assertRaises(BadName) as caught:
                call(river, rights, two, far, 0, 1, "farm", *more)
            self.assertEqual(caught.exception.name, "farm")
            with self.assertRaises(OtherLags):
                call(river, rights, two, far, 0, 1, "mill", *more)
        lagged = River([Day([1, 0], [(0, 1), (0, 1)], rain_between([0, 0], [0, 0]))])
        with self.assertRaises(OtherLags):
            injured(two, rights, lagged, rights, 0, 1)


class IsInjuryTest(unittest.TestCase):
    def setUp(self):
        # From 2 the mill's 2 are sure, and no more so if the farm takes 1 ahead of it.
        self.told = (plain_river(), Rights([MILL]), plain_river(), Rights([FARM, MILL]), 0, 1, "mill")
        self.found = injury(*self.told)

    def test_what_is_one(self):
        water, reasons = self.found
        self.assertEqual(water, (2,))
        self.assertTrue(is_injury(*self.told, (water, tuple(reasons))))
        more = [("evening", 0, 0, 1, 7, ("mark",))] + [
            (when, day, a, b, number, (why[0], *[at + 1 for at in why[1:]]))
            for when, day, a, b, number, why in reasons]
        self.assertTrue(is_injury(*self.told, (water, more)))

    def test_what_is_none(self):
        water, reasons = self.found
        last = reasons[-1]
        wrong = [[water, reasons], (water,), (water, reasons, None), (reasons, water), (list(water), reasons),
                 ((True,), reasons), (2, reasons), ((3,), reasons), ((1,), reasons), ((-1,), reasons), ((9,), reasons),
                 ((2, 0), reasons), ((), reasons), (None, reasons), (water, None), (water, []), (water, reasons[:-1]),
                 (water, reasons[1:]), (water, reasons[::-1]), (water, [list(reason) for reason in reasons]),
                 (water, reasons[:-1] + [last[:4] + (last[4] - 1,) + last[5:]]),
                 (water, reasons[:-1] + [last[:4] + (water[0] - last[2],) + last[5:]]),
                 (water, [reason[:1] + (bool(reason[1]),) + reason[2:] for reason in reasons]),
                 (water, {at: reason for at, reason in enumerate(reasons)})]
        for thing in [*wrong, *any_values(), None]:
            self.assertIs(is_injury(*self.told, thing), False, thing)

    def test_a_water_that_was_not_sure_before(self):
        becoming = river_of(plain_river(), self.told[3], ("farm", "mill"), 0, 1)
        for water in [(1,), (8,)]:
            self.assertFalse(is_injury(*self.told, (water, self.found[1])))
        reasons = book(becoming, 0, 1, (1,))
        self.assertTrue(is_book(becoming, 0, 1, (1,), reasons))
        self.assertFalse(is_injury(*self.told, ((1,), reasons)))

    def test_the_book_is_for_the_river_with_all_elders(self):
        # In the river without the farm there is no book for this water.
        alone = (plain_river(), Rights([MILL]), plain_river(), Rights([MILL, FARM]), 0, 1, "mill")
        self.assertIsNone(injury(*alone))
        self.assertFalse(is_injury(*alone, self.found))


class HarmlessTest(unittest.TestCase):
    def least_harm(self, river, rights, right, at, first, last):
        """The greatest amount by trying them all."""
        found = 0
        for amount in range(1, right[3] + 1):
            joined = rights.with_right(at, right[:3] + (amount,))
            if injured(river, rights, river, joined, first, last) != ():
                break
            found = amount
        return found

    def test_against_trying_every_amount(self):
        choice = random.Random(72)
        seen = {}
        for _ in range(70):
            river = some_river(choice)
            rights = Rights([some_claim(choice, sign, river, 3) for sign in "cab"[:choice.randint(0, 3)]])
            right = some_claim(choice, "new", river, 3)[:3] + (choice.randint(1, 6),)
            at = choice.randint(0, len(rights))
            first = choice.randint(0, 1)
            last = first + choice.randint(0, 2)
            found = harmless_most(river, rights, right, at, first, last)
            self.assertEqual(found, self.least_harm(river, rights, right, at, first, last))
            seen[(found == 0, found == right[3])] = True
        self.assertEqual(len(seen), 3)

    def test_between_none_and_all(self):
        # On the second day 4 come surely, so that 4 may be taken then, but not on the first one.
        rights = Rights([("a", 0, 0, 1)])
        wet = River([Day([0], [(0, 9)], rain_between([4], [4]), None, Table(1, {(1, 0): 5}))])
        for amount, most in [(1, 1), (3, 3), (4, 4), (5, 4), (10 ** 12, 4)]:
            self.assertEqual(harmless_most(wet, rights, ("b", 0, 1, amount), 0, 0, 1), most)
            self.assertEqual(harmless_most(wet, rights, ("b", 0, 0, amount), 0, 0, 1), 0)

    def test_each_index(self):
        free = plain_river_with_marks(None)
        rights = Rights([("a", 0, 0, 1), ("b", 0, 1, 1), ("c", 0, 3, 1)])
        for at, most in [(0, 0), (1, 0), (2, 0), (3, 5)]:
            self.assertEqual(harmless_most(free, rights, ("new", 0, 0, 5), at, 0, 3), most)
        self.assertEqual(harmless_most(free, rights, ("new", 0, 0, 5), 2, 0, 2), 0)
        self.assertEqual(harmless_most(free, Rights(), ("new", 0, 0, 5), 0, 0, 2), 5)

    def test_the_amount_itself(self):
        self.assertEqual(harmless_most(shut_river(), Rights([MILL]), ("new", 0, 0, 10 ** 12), 0, 0, 1), 10 ** 12)
        free = plain_river_with_marks(None)
        for day in [2, 10 ** 7]:
            self.assertEqual(harmless_most(free, Rights([MILL]), ("new", 0, day, 9), 0, 0, 1), 9)
        self.assertEqual(harmless_most(free, Rights([MILL]), ("new", 0, 0, 9), 0, 1, 2), 9)
        self.assertEqual(harmless_most(free, Rights([MILL]), ("new", 0, 1, 9), 0, 1, 2), 0)

    def test_seven_and_eight_rights(self):
        river = plain_river_with_marks(None)
        new = ("new", 0, 0, 3)
        self.assertEqual(harmless_most(river, many_rights(7), new, 7, 0, 8), 3)
        for at in [0, 8]:
            with self.assertRaises(TooMany) as caught:
                harmless_most(river, many_rights(8), new, at, 0, 8)
            self.assertEqual(caught.exception.most, 8)
        with self.assertRaises(BadRight):
            harmless_most(river, many_rights(8), ("a", 0, 0, 1), 9, 0, 8)
        with self.assertRaises(BadNumber):
            harmless_most(river, many_rights(8), new, 9, 0, 8)
        with self.assertRaises(BadNumber):
            harmless_most(river, many_rights(8), new, 0, 0, 40)

    def test_errors(self):
        river, rights = plain_river(), Rights([MILL])
        with self.assertRaises(BadRiver):
            harmless_most(None, None, None, None, None, None)
        for thing in [None, (), Rights([("x", 1, 0, 1)])]:
            with self.assertRaises(BadRights) as caught:
                harmless_most(river, thing, None, None, None, None)
            self.assertIsNone(caught.exception.at)
        for right in [None, (), ["new", 0, 0, 1], ("new", 0, 0, 0), ("new", 1, 0, 1), ("new", 4, 10 ** 7, 1), ("mill", 0, 0, 1),
                      MILL, ("new", 0, 0, True), rights]:
            with self.assertRaises(BadRight):
                harmless_most(river, rights, right, None, None, None)
        self.assertEqual(harmless_most(river=two_places(), rights=rights, right=("new", 1, 0, 1), at=1, first=0, last=1), 1)
        for at in [-1, 2, True, None, "0"]:
            for first, last in [(None, None), (0, 1)]:
                with self.assertRaises(BadNumber):
                    harmless_most(river, rights, TOWN, at, first, last)
        for first, last in WRONG_STRETCHES:
            with self.assertRaises(BadNumber):
                harmless_most(river, rights, TOWN, 0, first, last)
