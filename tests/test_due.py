"""What is due: points 150 and 151."""

import random
import unittest
from itertools import combinations, product

from blindweirs.days import Day, River, rain_between
from blindweirs.due import (Season, call, can_have, course, deal, is_call, is_course, needs, unmet)
from blindweirs.errors import (BadLot, BadName, BadNumber, BadRains, BadRights, BadRiver, BadSeason, BadTakings, BadWater,
                               NotPlain, TooMany)
from blindweirs.rights import Rights
from blindweirs.sums import LeastSum
from blindweirs.tables import Table
from brute import any_values, are_possible, some_rains, some_season, spots_of
from test_sums import NO_RAINS

DRY = rain_between([0], [0])
MILL, FARM = ("mill", 1, 1, 3), ("farm", 0, 0, 2)


def day_of(lags, outlets, rooms, places):
    return Day(lags, outlets, rain_between([0] * places, [0] * places), None, Table(len(lags) + sum(lags), rooms))


def two_places():
    """Up to 2 a day go from the upper to the lower place, which hold 4 and 5 over night."""
    return River([day_of([0, 0], [(0, 2), (0, None)], {(1, 0): 4, (2, 1): 5}, 2)])


def plain_season():
    return Season(two_places(), 0, 1, (1, 0), Rights([MILL, FARM]))


def lagged_season(last=2, water=(0, 2, 3, 1)):
    """Water is two days on its way to the lower place."""
    river = River([day_of([2, 0], [(0, 1), (0, 0)], {}, 2)])
    return Season(river, 0, last, water, Rights([("a", 1, 0, 5), ("b", 1, last, 9)]))


def takings_of(season):
    names = season.rights.names
    return [dict(zip(names, told)) for told in product(*[range(season.rights.right(name)[3] + 1) for name in names])]


def rains_on(spots, most):
    return [dict(zip(spots, told)) for told in product(range(most + 1), repeat=len(spots))]


def dealt_by_trying(season, rains):
    """Rank by rank the greatest number that is possible besides."""
    dealt = {}
    for name, _, _, amount in season.rights.rights:
        dealt[name] = max(number for number in range(amount + 1) if are_possible(season, rains, {**dealt, name: number}))
    return dealt


def lots_of(season):
    names = season.rights.names
    return [lot for many in range(len(names) + 1) for lot in combinations(names, many)]


class SeasonTest(unittest.TestCase):
    def refuse(self, error, *told, **attributes):
        with self.assertRaises(error) as caught:
            Season(*told)
        for name, value in attributes.items():
            self.assertEqual(getattr(caught.exception, name), value)

    def test_properties(self):
        river, rights = two_places(), Rights([MILL, FARM])
        season = Season(river=river, first=0, last=1, water=(1, 0), rights=rights)
        self.assertEqual((season.river, season.first, season.last, season.water, season.rights),
                         (river, 0, 1, (1, 0), rights))
        self.assertEqual(season, Season(river, 0, 1, (1, 0), rights))

    def test_equal_if_all_five_are(self):
        season = plain_season()
        river, rights = season.river, season.rights
        for told in [(River(river.days * 2), 0, 1, (1, 0), rights), (river, 0, 2, (1, 0), rights), (river, 0, 1, (0, 0), rights),
                     (river, 0, 1, (1, 0), Rights([FARM, MILL])), (river, 0, 1, (1, 0), Rights([MILL]))]:
            self.assertFalse(season == Season(*told))
        self.assertFalse(Season(river, 0, 1, (1, 0), Rights()) == Season(river, 1, 1, (1, 0), Rights()))
        for thing in any_values() + [(river, 0, 1, (1, 0), rights)]:
            self.assertFalse(season == thing)
        with self.assertRaises(TypeError):
            iter(season)

    def test_errors_in_their_order(self):
        river, rights = two_places(), Rights([MILL, ("late", 0, 2, 1)])
        for thing in [None, (), river.days, river.days[0], rights]:
            self.refuse(BadRiver, thing, None, None, None, None)
        for first, last in [(-1, None), (True, 1), (None, 1), ("0", 1), (0, -1), (2, 1), (0, True), (0, None), (0, 40)]:
            self.refuse(BadNumber, river, first, last, None, None)
        for water in [None, (), (0,), [0, 0], (0, 0, 0), (0, True), (0, -1), (-1, 0), (0, None)]:
            self.refuse(BadWater, river, 0, 1, water, None)
        for thing in [None, (), [MILL], (MILL,), 0, Rights([("a", 2, 0, 1)]), Rights([MILL, ("a", 4, 9, 1)])]:
            self.refuse(BadRights, river, 0, 1, (0, 0), thing, at=None)
        self.refuse(BadRights, river, 0, 1, (0, 0), rights, at=1)
        self.refuse(BadRights, river, 2, 3, (0, 0), rights, at=0)
        self.refuse(BadRights, river, 0, 1, (0, 0), Rights([("a", 0, 5, 1), ("b", 0, 6, 1)]), at=0)
        wild = River([river.days[0], river.days[0].with_takes([0, 1])])
        self.refuse(BadRights, wild, 0, 39, (0, 0), Rights([("a", 0, 40, 1)]), at=0)
        self.refuse(NotPlain, wild, 0, 39, (0, 0), Rights(), day=1)
        self.refuse(TooMany, river, 0, 6, (0, 0), Rights(), most=12)
        self.refuse(TooMany, river, 0, 39, (0, 0), Rights(), most=12)
        self.assertEqual(Season(river, 0, 5, (0, 0), Rights()).last, 5)
        self.assertEqual(Season(River([Day([0], [(0, 0)], DRY)]), 0, 11, (0,), Rights()).last, 11)
        self.refuse(TooMany, River([Day([0], [(0, 0)], DRY)]), 0, 12, (0,), Rights(), most=12)
        five = River([Day([0] * 5, [(0, 0)] * 5, rain_between([0] * 5, [0] * 5))])
        self.refuse(TooMany, five, 0, 2, (0,) * 5, Rights(), most=12)

    def test_days_that_are_not_plain(self):
        good = day_of([1, 0], [(0, 2), (0, None)], {(1, 0): 0, (3, 2): 10 ** 12}, 2)
        marks = [{(2, 1): 3}, {(0, 1): 0}, {(1, 0): -1}, {(2, 0): 4}, {(3, 1): 4}, {(3, 2): 5, (2, 3): 0}, {(1, 0): 1, (2, 3): -1},
                 {(3, 0): 9}]
        wrong = [good.with_marks(Table(3, bounds)) for bounds in marks]
        wrong += [good.with_takes([0, 1]), good.with_takes([1, 0]), good.with_outlets([(1, 2), (0, 0)]),
                  good.with_outlets([(0, 2), (3, None)])]
        for day in wrong:
            self.refuse(NotPlain, River([day]), 0, 0, (0, 0, 0), Rights(), day=0)
            self.refuse(NotPlain, River([good, good, day, day]), 4, 7, (0, 0, 0), Rights(), day=6)
            self.refuse(NotPlain, River([day, good]), 10 ** 7 - 1, 10 ** 7 + 1, (0, 0, 0), Rights(), day=10 ** 7)
            self.assertEqual(Season(River([good, good, day]), 3, 4, (0, 0, 0), Rights()).first, 3)
        for rain in [rain_between([0, 3], [0, 5]), Table(2, {(2, 0): 4, (0, 1): 0, (1, 2): -1})]:
            self.assertEqual(Season(River([good.with_rain(rain)]), 0, 0, (0, 0, 0), Rights()).first, 0)


class CourseTest(unittest.TestCase):
    def test_one_season(self):
        season = plain_season()
        self.assertEqual(course(season, {}, {}), [((1, 0), (0, 0)), ((0, 0), (0, 0))])
        told = course(season, {(0, 0): 4, (1, 1): 1}, {"mill": 3, "farm": 2})
        self.assertIs(is_course(season, {(0, 0): 4, (1, 1): 1}, {"mill": 3, "farm": 2}, told), True)
        self.assertEqual([len(told), type(told), {type(part) for pair in told for part in (pair, *pair)}], [2, list, {tuple}])
        self.assertIsNone(course(season, {(0, 0): 3}, {"mill": 3, "farm": 2}))
        self.assertIsNone(course(season, {(1, 0): 9}, {"mill": 3, "farm": 1}))
        self.assertIsNotNone(course(season=season, rains={(1, 0): 1}, takings={"mill": 2}))

    def test_exactly_where_the_takings_are_possible(self):
        choice = random.Random(150)
        seen = {}
        for _ in range(700):
            season = some_season(choice)
            rains = some_rains(choice, season)
            if choice.random() < 0.3:
                rains[(season.first, 7)] = rains[(season.last + 1, 0)] = 9
            takings = {name: choice.randint(0, season.rights.right(name)[3]) for name in season.rights.names
                       if choice.random() < 0.8}
            possible = are_possible(season, rains, takings)
            found = course(season, rains, takings)
            self.assertIs(found is not None, possible)
            self.assertTrue(found is None or is_course(season, rains, takings, found))
            seen[possible] = True
        self.assertEqual(len(seen), 2)

    def test_drops_that_are_no_spots(self):
        season = plain_season()
        for drop in [(2, 0), (0, 2), (7, 7), (10 ** 9, 0)]:
            self.assertIsNone(course(season, {drop: 50}, {"farm": 2}))
            self.assertEqual(deal(season, {drop: 50}), {"farm": 0, "mill": 1})

    def test_judged_by_walking(self):
        season = plain_season()
        rains, takings = {(0, 0): 6, (1, 1): 1}, {"mill": 3, "farm": 1}
        good = [((0, 0), (2, 0)), ((0, 0), (1, 1))]
        wide = [((0, 0), (2, 0)), ((0, 0), (2, 1))]
        for thing in [good, wide, tuple(good), [((1, 0), (2, 0)), ((0, 0), (0, 0))], [((0, 1), (2, 0)), ((2, 1), (2, 0))],
                      [((0, 0), (2, 0)), ((0, 0), (0, 0))]]:
            self.assertIs(is_course(season, rains, takings, thing), True, thing)
        for thing in [[list(pair) for pair in good], [(list(spills), told) for spills, told in good],
                      [(spills, list(told)) for spills, told in good], good[:1], good + good[:1], [], None,
                      [((False, 0), (2, 0)), good[1]], [((0, 0), (2, False)), good[1]], [((0, 0), (2, 0), ()), good[1]],
                      [((0, 0), (3, 0)), good[1]], [((0, 0), (-1, 0)), good[1]], [((-1, 0), (2, 0)), good[1]],
                      [((0, 0), (1, 0)), good[1]], [((0,), (2, 0)), good[1]], [((0, 0, 0), (2, 0)), good[1]],
                      [((0, 0), (2,)), good[1]], [((5, 0), (2, 0)), good[1]], [((0, 3), (2, 0)), good[1]],
                      [((0, 0), (2, 3)), good[1]], [good[0], ((5, 0), (0, 0))], [good[0], ((0, 0), (0, 3))],
                      [good[0], ((0, None), (0, 0))], [good[0], None], dict(enumerate(good)), "ab"] + any_values():
            self.assertIs(is_course(season=season, rains=rains, takings=takings, thing=thing), False, thing)
        self.assertIs(is_course(season, {}, {"mill": 1}, [((0, 0), (1, 0)), ((0, 0), (0, 0))]), True)
        self.assertIs(is_course(season, {}, {"mill": 1}, [((0, 0), (0, 0)), ((0, 0), (1, 0))]), True)
        self.assertIs(is_course(season, {}, {"mill": 2}, [((0, 0), (1, 0)), ((0, 0), (0, 0))]), False)

    def test_rooms(self):
        season = plain_season()
        stay = [((0, 0), (0, 0)), ((0, 0), (0, 0))]
        self.assertIs(is_course(season, {(0, 0): 3, (1, 1): 5}, {}, stay), True)
        self.assertIs(is_course(season, {(0, 0): 4}, {}, stay), False)
        self.assertIs(is_course(season, {(1, 1): 6}, {}, stay), False)
        self.assertIs(is_course(season, {(1, 1): 6}, {}, [stay[0], ((0, 1), (0, 0))]), True)

    def test_errors(self):
        season = plain_season()
        for ask, more in [(course, []), (is_course, [None])]:
            for thing in [thing for thing in any_values() if not isinstance(thing, Season)] + [season.river]:
                with self.assertRaises(BadSeason):
                    ask(thing, None, None, *more)
            for rains in NO_RAINS + [None, [], 0]:
                with self.assertRaises(BadRains):
                    ask(season, rains, None, *more)
            for takings in [None, [], (), "mill", 3, ["mill"], {"town": 0}, {"town": 1}, {"mill": 4}, {"mill": -1}, {"mill": True},
                            {"mill": None}, {"mill": "1"}, {"farm": 3, "mill": 1}, {None: 0}, {0: 0}, {"mill": 1, "": 0},
                            {("mill",): 1}, {"farm": 1, "mill": [1]}, Rights([MILL])]:
                with self.assertRaises(BadTakings):
                    ask(season, {}, takings, *more)


class DealTest(unittest.TestCase):
    def test_one_season(self):
        season = plain_season()
        for rains, dealt in [({}, {"farm": 0, "mill": 1}), ({(0, 0): 4}, {"farm": 2, "mill": 3}), ({(0, 0): 1}, {"farm": 0, "mill": 2}),
                             ({(0, 0): 3}, {"farm": 1, "mill": 3}), ({(1, 0): 9}, {"farm": 0, "mill": 3}),
                             ({(1, 1): 10 ** 12}, {"farm": 1, "mill": 3})]:
            self.assertEqual(deal(season, rains), dealt)
            self.assertEqual(list(deal(season=season, rains=rains)), ["farm", "mill"])

    def test_against_trying_all_takings(self):
        choice = random.Random(151)
        for _ in range(400):
            season = some_season(choice)
            rains = some_rains(choice, season)
            self.assertEqual(deal(season, rains), dealt_by_trying(season, rains))

    def test_rights_of_one_spot(self):
        river = River([day_of([0], [(0, 0)], {}, 1)])
        season = Season(river, 0, 0, (2,), Rights([("c", 0, 0, 3), ("a", 0, 0, 1), ("b", 0, 0, 4)]))
        for rain, dealt in [(0, (0, 0, 2)), (1, (0, 0, 3)), (2, (1, 0, 3)), (3, (1, 1, 3)), (6, (1, 4, 3)), (90, (1, 4, 3))]:
            self.assertEqual(deal(season, {(0, 0): rain}), dict(zip("abc", dealt)))

    def test_no_rights(self):
        self.assertEqual(deal(Season(two_places(), 0, 1, (1, 0), Rights()), {(0, 0): 5}), {})

    def test_days_far_on(self):
        days = [day_of([0], [(0, 0)], {(1, 0): room}, 1) for room in (0, 2, 5)]
        first = 10 ** 7 - 1
        season = Season(River(days), first, first + 2, (0,), Rights([("a", 0, first + 2, 9)]))
        # The rooms of these days are those of days 0, 1 and 2 of the river, as they come again.
        self.assertEqual(first % 3, 0)
        self.assertEqual(deal(season, {(first, 0): 8, (first + 1, 0): 4}), {"a": 2})

    def test_more_rain_never_lowers(self):
        choice = random.Random(152)
        for _ in range(150):
            season = some_season(choice)
            rains = some_rains(choice, season)
            more = {drop: rains.get(drop, 0) + choice.randint(0, 2) for drop in spots_of(season)}
            before, after = deal(season, rains), deal(season, more)
            self.assertTrue(all(before[name] <= after[name] for name in before))

    def test_errors(self):
        season = plain_season()
        for thing in [None, season.river, (season,)]:
            with self.assertRaises(BadSeason):
                deal(thing, None)
        for rains in NO_RAINS + [None, [], ()]:
            with self.assertRaises(BadRains):
                deal(season, rains)


class CanHaveTest(unittest.TestCase):
    def test_one_season(self):
        season = plain_season()
        self.assertEqual(can_have(season, ()), LeastSum([(0, ())]))
        self.assertEqual(can_have(season, ("farm",)), LeastSum([(2, ()), (1, ((0, 0),))]))
        self.assertEqual(can_have(season=season, lot=("mill", "farm")).sums,
                         [(1, ((0, 0), (0, 1), (1, 0), (1, 1))), (3, ((0, 0), (0, 1), (1, 1))), (4, ((0, 0),)), (5, ())])

    def test_against_the_greatest_sum_of_takings(self):
        choice = random.Random(153)
        for _ in range(60):
            season = some_season(choice, most_spots=4, most_rights=3, most_amount=2)
            all_takings = takings_of(season)
            for rains in choice.sample(rains_on(spots_of(season), 2), 3) + [some_rains(choice, season, 10)]:
                possible = [takings for takings in all_takings if are_possible(season, rains, takings)]
                for lot in lots_of(season):
                    most = max(sum(takings.values()) for takings in possible
                               if not any(number for name, number in takings.items() if name not in lot))
                    self.assertEqual(can_have(season, lot).value(rains), most)

    def test_ways_without_a_bound(self):
        river = River([day_of([0, 0], [(0, None), (0, None)], {}, 2)])
        season = Season(river, 0, 1, (0, 0), Rights([("a", 1, 1, 9), ("b", 0, 1, 4)]))
        self.assertEqual(can_have(season, ("a",)).sums, [(0, ((0, 0), (0, 1), (1, 0), (1, 1))), (9, ())])
        self.assertEqual(can_have(season, ("b",)).sums, [(0, ((0, 0), (1, 0))), (4, ())])
        self.assertEqual(can_have(season, ("a", "b")).sums,
                         [(0, ((0, 0), (0, 1), (1, 0), (1, 1))), (9, ((0, 0), (1, 0))), (13, ())])

    def test_water_on_its_way(self):
        season = lagged_season()
        self.assertEqual(deal(season, {}), {"a": 4, "b": 2})
        self.assertEqual(can_have(season, ("a",)).sums, [(4, ((0, 1),)), (5, ())])
        short = lagged_season(0, (9, 2, 3, 1))
        # What lies in the first cell of the way comes behind the last day.
        self.assertEqual(deal(short, {}), {"a": 4, "b": 0})
        self.assertEqual(deal(lagged_season(1, (9, 2, 3, 1)), {}), {"a": 4, "b": 2})
        self.assertEqual(can_have(short, ("a", "b")).sums, [(4, ((0, 1),)), (14, ())])

    def test_the_first_ones_together(self):
        choice = random.Random(154)
        for _ in range(200):
            season = some_season(choice)
            rains = some_rains(choice, season)
            dealt = deal(season, rains)
            names = season.rights.names
            for many in range(len(names) + 1):
                self.assertEqual(can_have(season, names[:many]).value(rains), sum(dealt[name] for name in names[:many]))

    def test_errors(self):
        season = plain_season()
        for ask, more in [(can_have, []), (needs, []), (unmet, [None])]:
            for thing in [None, season.river, (season,), 0]:
                with self.assertRaises(BadSeason):
                    ask(thing, None, *more)
            for lot in [None, ["mill"], [], "mill", ("farm", "mill"), ("mill", "mill"), ("town",), (None,), ("mill", "farm", "town"),
                        (0,), {"mill": 1}, ("mill", ["farm"])]:
                with self.assertRaises(BadLot):
                    ask(season, lot, *more)


class CallTest(unittest.TestCase):
    def test_exactly_for_rights_that_are_short(self):
        choice = random.Random(155)
        for _ in range(300):
            season = some_season(choice)
            rains = some_rains(choice, season)
            dealt = deal(season, rains)
            for name, _, _, amount in season.rights.rights:
                found = call(season, rains, name)
                if dealt[name] == amount:
                    self.assertIsNone(found)
                else:
                    self.assertIsInstance(found, tuple)
                    self.assertIs(is_call(season, rains, name, found), True)

    def test_judged_by_the_sums(self):
        choice = random.Random(156)
        for _ in range(60):
            season = some_season(choice, most_spots=4)
            rains = some_rains(choice, season)
            spots = spots_of(season)
            for name, place, day, amount in season.rights.rights:
                dealt = deal(season, rains)
                elders = season.rights.elders(name)
                together = sum(dealt[other] for other in elders)
                for many in range(len(spots) + 1):
                    for basin in combinations(spots, many):
                        calls = (dealt[name] < amount and (day, place) not in basin
                                 and self.sum_of(season, elders, rains, basin) == together)
                        self.assertIs(is_call(season, rains, name, basin), calls)

    def sum_of(self, season, lot, rains, basin):
        """The value of the sum that a basin tells, None if there is none, from the words of point 151."""
        spots = spots_of(season)
        total = sum(rains.get(spot, 0) for spot in spots if spot not in basin)
        total += sum(amount for name, place, day, amount in season.rights.rights if name in lot and (day, place) in basin)
        at = 0
        for place, lag in enumerate(season.river.lags):
            for step in range(lag + 1):
                spot = (season.first, place) if step == 0 else (season.first + lag - step, place + 1)
                if spot in spots and spot not in basin:
                    total += season.water[at]
                at += 1
        for day, place in basin:
            told = season.river.day_on(day)
            point = place + 1 + sum(told.lags[:place])
            for goal, most in [((day + told.lags[place], place + 1), told.outlets[place][1]),
                               ((day + 1, place), told.marks.bounds.get((point, point - 1)))]:
                if goal in spots and goal not in basin:
                    if most is None:
                        return None
                    total += most
        return total

    def test_spots_in_another_order(self):
        river = River([day_of([0, 0], [(0, 0), (0, 0)], {(1, 0): 0, (2, 1): 0}, 2)])
        season = Season(river, 0, 1, (0, 0), Rights([("a", 1, 1, 2)]))
        for basin in [(), ((0, 0), (0, 1)), ((0, 0), (0, 1), (1, 0)), ((0, 1), (1, 0))]:
            self.assertIs(is_call(season, {(1, 1): 1}, "a", basin), True)
        for basin in [((0, 1), (0, 0)), ((0, 0), (0, 0)), ((0, 0), (1, 0), (0, 1)), ((1, 0), (0, 1)), ((0, 0), (0, 0), (0, 1))]:
            self.assertIs(is_call(season, {(1, 1): 1}, "a", basin), False)
        self.assertIs(is_call(season, {(1, 1): 1}, "a", ((1, 1),)), False)
        self.assertIs(is_call(season, {(1, 1): 2}, "a", ()), False)

    def test_what_is_no_call(self):
        season = plain_season()
        self.assertEqual(call(season=season, rains={}, name="mill"), ())
        for thing in [[], ((1, 1),), ((0, 0), (1, 1)), ((0, True),), ((False, 0),), ((0, 2),), ((2, 0),), ((-1, 0),), ((1, -1),),
                      ((0, 0), (0, 0)), ((0, 1), (0, 0)), [(0, 0)], ([0, 0],), ((0,),), ((0, 0, 0),), ("00",), "", {}, None, 0,
                      *any_values()]:
            self.assertIs(is_call(season=season, rains={}, name="mill", thing=thing), False, thing)
        self.assertIs(is_call(season, {}, "mill", ()), True)
        self.assertIs(is_call(season, {(0, 0): 1}, "mill", ((0, 0), (1, 0))), False)
        self.assertIs(is_call(season, {(0, 0): 2}, "mill", ()), False)
        self.assertIsNone(call(season, {(0, 0): 2}, "mill"))

    def test_errors(self):
        season = plain_season()
        for ask, more in [(call, []), (is_call, [None])]:
            for thing in [None, season.river, 0]:
                with self.assertRaises(BadSeason):
                    ask(thing, None, None, *more)
            for rains in NO_RAINS + [None, [], 0]:
                with self.assertRaises(BadRains):
                    ask(season, rains, None, *more)
            for name in [None, 0, "town", "", ("mill",), ["mill"], MILL, {}]:
                with self.assertRaises(BadName) as caught:
                    ask(season, {}, name, *more)
                self.assertEqual(caught.exception.name, name)


class NeedsTest(unittest.TestCase):
    def test_one_season(self):
        season = plain_season()
        self.assertEqual(needs(season, ()), [])
        self.assertEqual(needs(season, ("farm",)), [(((0, 0),), 1)])
        upper, whole, dry = ((0, 0),), ((0, 0), (0, 1), (1, 0), (1, 1)), ((0, 0), (0, 1), (1, 1))
        self.assertEqual(needs(season=season, lot=("mill", "farm")), [(upper, 1), (whole, 4), (dry, 2)])
        self.assertEqual(unmet(season, ("mill", "farm"), {}), (upper, 1))
        self.assertEqual(unmet(season=season, lot=("mill", "farm"), rains={(0, 0): 1, (1, 0): 2}), (whole, 4))
        self.assertEqual(unmet(season, ("mill", "farm"), {(0, 0): 1, (1, 0): 3}), (dry, 2))
        self.assertIsNone(unmet(season, ("mill", "farm"), {(0, 0): 1, (1, 1): 3}))
        self.assertIsNone(unmet(season, (), {}))

    def test_needs_that_others_add_up_to_go(self):
        river = River([day_of([0, 0, 0], [(0, 0), (0, 0), (0, 0)], {}, 3)])
        season = Season(river, 0, 0, (0, 0, 0), Rights([("a", 0, 0, 2), ("b", 1, 0, 3), ("c", 2, 0, 4)]))
        self.assertEqual(len(can_have(season, ("a", "b", "c")).sums), 8)
        self.assertEqual(needs(season, ("a", "b", "c")), [(((0, 0),), 2), (((0, 1),), 3), (((0, 2),), 4)])

    def test_a_need_of_two_that_come_to_more(self):
        # The upper spots are cut off from each other: what each lacks is lacking together, and the sum tells no more.
        river = River([day_of([0, 0], [(0, 1), (0, 0)], {(1, 0): 0, (2, 1): 0}, 2)])
        season = Season(river, 0, 1, (0, 0), Rights([("a", 0, 0, 2), ("b", 0, 1, 3), ("c", 1, 1, 4)]))
        self.assertEqual(needs(season, ("a", "b")), [(((0, 0),), 2), (((1, 0),), 3)])
        self.assertEqual(needs(season, ("b", "c")), [(((1, 0),), 3), (((1, 0), (1, 1)), 7), (((1, 1),), 3)])

    def test_the_lot_is_served_exactly_if_all_are_met(self):
        choice = random.Random(157)
        for _ in range(150):
            season = some_season(choice, most_spots=4, most_rights=3)
            for lot in lots_of(season):
                told = needs(season, lot)
                self.assertEqual(told, sorted(told))
                amounts = sum(season.rights.right(name)[3] for name in lot)
                for rains in [some_rains(choice, season, 6) for _ in range(4)]:
                    first = unmet(season, lot, rains)
                    self.assertIs(first is None, can_have(season, lot).value(rains) == amounts)
                    not_met = [pair for pair in told if sum(rains.get(drop, 0) for drop in pair[0]) < pair[1]]
                    self.assertEqual(first, not_met[0] if not_met else None)

    def test_as_few_as_can_be(self):
        choice = random.Random(158)
        for _ in range(150):
            season = some_season(choice, most_spots=6)
            told = needs(season, season.rights.names)
            for at, (drops, number) in enumerate(told):
                # Some rains meet all others and not this one: so none can be left out.
                rains = self.rains_short_of(told, at)
                self.assertIsNotNone(rains)
                self.assertEqual(unmet(season, season.rights.names, rains), (drops, number))

    def rains_short_of(self, told, at):
        """Rains on the drops of a need, one less than it needs at most, and plenty elsewhere, that meet all others."""
        drops, number = told[at]
        for numbers in product(range(number), repeat=len(drops)):
            if sum(numbers) < number:
                rains = dict(zip(drops, numbers))
                every = {drop: rains.get(drop, 99) for lot, _ in told for drop in lot}
                if all(sum(every[drop] for drop in lot) >= other for lot, other in told[:at] + told[at + 1:]):
                    return every
        return None

    def test_numbers_many_times_as_great(self):
        choice = random.Random(159)
        great = 10 ** 10
        for _ in range(40):
            season = some_season(choice, most_spots=4)
            river = River([self.times(day, great) for day in season.river.days])
            rights = Rights([(name, place, day, amount * great) for name, place, day, amount in season.rights.rights])
            water = tuple(number * great for number in season.water)
            other = Season(river, season.first, season.last, water, rights)
            rains = some_rains(choice, season)
            more = {drop: rains[drop] * great for drop in rains}
            self.assertEqual(deal(other, more), {name: number * great for name, number in deal(season, rains).items()})
            for lot in lots_of(season):
                self.assertEqual(can_have(other, lot).sums, [(number * great, drops) for number, drops in can_have(season, lot).sums])
                self.assertEqual(needs(other, lot), [(drops, number * great) for drops, number in needs(season, lot)])

    def times(self, day, great):
        outlets = [(0, None if most is None else most * great) for _, most in day.outlets]
        bounds = day.marks.bounds
        marks = Table(day.marks.size, {pair: bounds[pair] * great for pair in bounds})
        return day.with_outlets(outlets).with_marks(marks)

    def test_no_rains(self):
        for rains in NO_RAINS + [None, [], 0]:
            with self.assertRaises(BadRains):
                unmet(plain_season(), ("mill",), rains)


if __name__ == "__main__":
    unittest.main()
