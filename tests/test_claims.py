"""Claims for all rains: point 160."""

import random
import unittest
from itertools import product

from blindweirs.claims import (case, in_the_way, is_case, is_shield, losers, never_loses, shield)
from blindweirs.days import Day, River, rain_between
from blindweirs.due import Season, can_have, deal
from blindweirs.errors import BadName, BadSeason, OtherSpots, TooMany
from blindweirs.rights import Rights
from blindweirs.tables import Table
from brute import any_values, some_rains, some_season, spots_of
from test_sums import NO_RAINS

BY_NAME = [(never_loses, []), (case, []), (is_case, [None]), (shield, []), (is_shield, [None])]


def one_place(many, rooms, rights, water=0, outlet=0):
    """So many days of one reservoir, with a room on each of the days of the river."""
    days = [Day([0], [(0, outlet)], rain_between([0], [0]), None, Table(1, {} if room is None else {(1, 0): room}))
            for room in rooms]
    return Season(River(days), 0, many - 1, (water,), Rights(rights))


def many_spots(many_rights):
    """Twelve spots without ways: so many rights of one spot each have 2 ** many_rights needed sums together."""
    river = River([Day([0] * 4, [(0, 0)] * 4, rain_between([0] * 4, [0] * 4), None, Table(4, {(k, k - 1): 0 for k in range(1, 5)}))])
    rights = [("abcdefgh"[at], at % 4, at // 4, 1 + at) for at in range(many_rights)]
    return Season(river, 0, 2, (0, 0, 0, 0), Rights(rights))


def changed(choice, season):
    """A season with the same spots: other rights, other water or another river."""
    rights = season.rights
    names = rights.names
    kind = choice.randrange(5)
    if kind == 0 and names:
        rights = rights.moved(choice.choice(names), choice.randrange(len(names)))
    elif kind == 1 and names:
        rights = rights.without(choice.choice(names))
    elif kind == 2:
        return some_season(choice, list(season.river.lags), season.first, season.last - season.first + 1)
    elif kind == 3 and names:
        name, place, day, amount = rights.right(choice.choice(names))
        at = names.index(name)
        told = (name, choice.randrange(len(season.river.lags)), choice.choice([day, season.last]), amount + choice.randint(0, 1))
        rights = rights.without(name).with_right(at, told)
    water = tuple(choice.randint(0, 2) for _ in season.water) if kind == 4 else season.water
    return Season(season.river, season.first, season.last, water, rights)


def common(old, new):
    return [name for name in old.rights.names if name in new.rights.names]


class NeverLosesTest(unittest.TestCase):
    def test_who_comes_behind_loses(self):
        old = one_place(1, [None], [("a", 0, 0, 2), ("b", 0, 0, 3)])
        new = one_place(1, [None], [("b", 0, 0, 3), ("a", 0, 0, 2)])
        self.assertIs(never_loses(old=old, new=new, name="a"), False)
        self.assertIs(never_loses(old, new, "b"), True)
        self.assertEqual(losers(old=old, new=new), ("a",))
        self.assertEqual(losers(new, old), ("b",))
        self.assertEqual(losers(old, old), ())
        rains = case(old=old, new=new, name="a")
        self.assertIs(is_case(old=old, new=new, name="a", thing=rains), True)
        self.assertIsNone(case(old, new, "b"))
        self.assertIsNone(shield(old=old, new=new, name="a"))
        self.assertIs(is_shield(old=old, new=new, name="b", thing=shield(old, new, "b")), True)

    def test_a_right_with_another_place_amount_or_rank(self):
        upper = ("a", 0, 0, 2)
        river = River([Day([0, 0], [(0, 1), (0, 0)], rain_between([0, 0], [0, 0]))])
        old = Season(river, 0, 0, (0, 0), Rights([upper, ("b", 0, 0, 1)]))
        for right, loses in [(upper, False), (("a", 1, 0, 2), True), (("a", 0, 0, 1), True), (("a", 0, 0, 3), False),
                             (("a", 1, 0, 1), True)]:
            new = Season(river, 0, 0, (0, 0), Rights([right, ("b", 0, 0, 1)]))
            self.assertIs(never_loses(old, new, "a"), not loses, right)
        new = Season(river, 0, 0, (0, 0), Rights([("b", 0, 0, 1), ("c", 1, 0, 5), upper]))
        self.assertIs(never_loses(old, new, "a"), False)
        self.assertIs(never_loses(new, old, "a"), True)
        self.assertIs(never_loses(old, new, "b"), True)
        self.assertEqual(losers(old, new), ("a",))

    def test_against_dealing_over_many_rains(self):
        choice = random.Random(160)
        seen = {}
        for _ in range(500):
            old = some_season(choice, most_spots=4, most_amount=2)
            new = changed(choice, old)
            lost = {name: False for name in common(old, new)}
            tried = [dict(zip(spots_of(old), told)) for told in product(range(4), repeat=len(spots_of(old)))]
            for rains in choice.sample(tried, min(len(tried), 25)):
                was, becomes = deal(old, rains), deal(new, rains)
                for name in lost:
                    lost[name] = lost[name] or becomes[name] < was[name]
            for name in lost:
                never = never_loses(old, new, name)
                seen[(never, lost[name])] = True
                self.assertFalse(never and lost[name])
                self.judge(old, new, name, never)
            self.assertEqual(losers(old, new), tuple(sorted(name for name in lost if not never_loses(old, new, name))))
        self.assertIn((False, True), seen)
        self.assertIn((True, False), seen)

    def judge(self, old, new, name, never):
        """A case exactly if it loses, a shield exactly if not, each as the document tells."""
        rains, found = case(old, new, name), shield(old, new, name)
        self.assertIs(rains is None, never)
        self.assertIs(found is None, not never)
        if never:
            self.assertIs(is_shield(old, new, name, found), True)
            self.assertEqual(list(found), sorted(found))
            self.assertTrue(len(found) > 200 or self.shields(old, new, name, found))
        else:
            self.assertEqual(list(rains), sorted(rains))
            self.assertIs(is_case(old, new, name, rains), True)
            self.assertLess(deal(new, rains)[name], deal(old, rains)[name])

    def shields(self, old, new, name, found):
        """The words of the document, one by one."""
        was, becomes = old.rights.elders(name), new.rights.elders(name)
        old_with, old_without = can_have(old, was).sums, can_have(old, was[:-1]).sums
        new_with, new_without = can_have(new, becomes).sums, can_have(new, becomes[:-1]).sums
        if set(found) != set(product(range(len(new_with)), range(len(old_without)))):
            return False
        for (i, j), (k, l) in found.items():
            above, below = [new_with[i], old_without[j]], [old_with[k], new_without[l]]
            if sum(number for number, _ in below) > sum(number for number, _ in above):
                return False
            for drop in spots_of(old):
                if sum(drop in lot for _, lot in below) > sum(drop in lot for _, lot in above):
                    return False
        return True

    def test_great_seasons(self):
        choice = random.Random(161)
        seen = {}
        for _ in range(5):
            lags = choice.choice([[0], [0, 0], [0, 0, 0], [1, 1, 0]])
            old = some_season(choice, lags, 3, 12 // len(lags) if len(lags) > 1 else 6, most_rights=5, most_amount=10 ** 9)
            new = changed(choice, old)
            for name in common(old, new):
                if max(len(can_have(one, one.rights.elders(name)[:many]).sums) for one in (old, new) for many in range(6)) <= 60:
                    never = never_loses(old, new, name)
                    seen[never] = True
                    self.judge(old, new, name, never)
        self.assertEqual(len(seen), 2)

    def test_cases(self):
        old = one_place(2, [None, 0], [("a", 0, 1, 2), ("b", 0, 1, 3)])
        new = one_place(2, [1, 0], [("a", 0, 1, 2), ("b", 0, 1, 3)])
        for rains, is_one in [({(0, 0): 2}, True), ({(0, 0): 1}, False), ({}, False), ({(0, 0): 2, (1, 0): 1}, False),
                              ({(0, 0): 9}, True), ({(0, 0): 2, (7, 7): 3}, True), ({(0, 0): 9, (1, 0): 2}, False)]:
            self.assertIs(is_case(old, new, "a", rains), is_one, rains)
            self.assertIs(is_case(new, old, "a", rains), False)
        for thing in NO_RAINS + any_values() + [{(0, 0): 2, (True, 0): 0}, [((0, 0), 2)]]:
            self.assertIs(is_case(old, new, "a", thing), False)

    def test_a_drop_of_both_sums_brings_nothing(self):
        old = one_place(3, [None, 2], [("b", 0, 2, 3), ("a", 0, 0, 2), ("d", 0, 1, 2)])
        new = one_place(3, [3, 2], [("b", 0, 2, 3), ("a", 0, 2, 1), ("c", 0, 1, 1), ("d", 0, 2, 2)])
        self.judge(old, new, "d", False)

    def test_shields(self):
        old = one_place(1, [None], [("b", 0, 0, 1), ("a", 0, 0, 2)])
        new = one_place(1, [None], [("a", 0, 0, 2)])
        drop = (0, 0)
        self.assertEqual([can_have(new, ("a",)).sums, can_have(old, ("b",)).sums], [[(0, (drop,)), (2, ())], [(0, (drop,)), (1, ())]])
        self.assertEqual([can_have(old, ("b", "a")).sums, can_have(new, ()).sums], [[(0, (drop,)), (3, ())], [(0, ())]])
        good = {(0, 0): (0, 0), (0, 1): (0, 0), (1, 0): (0, 0), (1, 1): (1, 0)}
        self.assertEqual(shield(old, new, "a"), good)
        wrong = [{**good, (1, 1): (0, 0)}, {**good, (0, 0): (1, 0)}, {**good, (0, 0): (0, 1)}, {**good, (0, 0): (0, -1)},
                 {**good, (0, 0): (0, False)}, {**good, (0, 0): [0, 0]}, {**good, (0, 0): (0,)}, {**good, (0, 0): (0, 0, 0)},
                 {**good, (0, 0): None}, {**good, (2, 0): (0, 0)}, {**good, (1, 2): (0, 0)}, {**good, None: (0, 0)},
                 {(0, 0): (0, 0), (0, 1): (0, 0), (1, 0): (0, 0)}, {}, list(good.items()), tuple(good), [good],
                 {(0, 0): (0, 0), (0, 1): (0, 0), (1, 0): (0, 0), (True, 1): (1, 0)},
                 {(0, 0): (0, 0), (0, True): (0, 0), (1, 0): (0, 0), (1, 1): (1, 0)},
                 {(0, 0): (0, 0), (0, 1): (0, 0), (1, 0): (0, 0), (1, 2): (1, 0)},
                 {(0, 0): ((0,), 0), (0, 1): (0, 0), (1, 0): (0, 0), (1, 1): (1, 0)}]
        self.assertIs(is_shield(old, new, "a", good), True)
        self.assertIs(is_shield(old, new, "a", dict(reversed(good.items()))), True)
        for thing in wrong + any_values():
            self.assertIs(is_shield(old, new, "a", thing), False, thing)

    def test_each_shield_by_the_words(self):
        choice = random.Random(162)
        seen = {}
        for _ in range(150):
            old = some_season(choice, most_spots=2, most_rights=2, most_amount=1)
            new = changed(choice, old)
            for name in common(old, new):
                was, becomes = old.rights.elders(name), new.rights.elders(name)
                keys = list(product(range(len(can_have(new, becomes).sums)), range(len(can_have(old, was[:-1]).sums))))
                values = list(product(range(len(can_have(old, was).sums)), range(len(can_have(new, becomes[:-1]).sums))))
                for _ in range(20):
                    told = {pair: choice.choice(values) for pair in keys}
                    self.assertIs(is_shield(old, new, name, told), self.shields(old, new, name, told))
                    seen[self.shields(old, new, name, told)] = True
        self.assertEqual(len(seen), 2)

    def test_losers_have_names_of_both(self):
        old = one_place(1, [None], [("z", 0, 0, 1), ("b", 0, 0, 1), ("a", 0, 0, 1), ("c", 0, 0, 1)])
        new = one_place(1, [None], [("y", 0, 0, 9), ("c", 0, 0, 1), ("b", 0, 0, 1), ("a", 0, 0, 1)])
        self.assertEqual(losers(old, new), ("a", "b", "c"))
        self.assertEqual(losers(one_place(1, [None], [("z", 0, 0, 1)]), new), ())


class InTheWayTest(unittest.TestCase):
    def test_one_place(self):
        season = one_place(1, [None], [("c", 0, 0, 1), ("b", 0, 0, 1), ("a", 0, 0, 1)])
        self.assertEqual(in_the_way(season=season), [("b", "a"), ("c", "a"), ("c", "b")])
        self.assertEqual(in_the_way(one_place(1, [None], [])), [])
        self.assertEqual(in_the_way(one_place(1, [None], [("a", 0, 0, 1)])), [])

    def test_what_lies_apart(self):
        rights = [("a", 0, 0, 1), ("b", 0, 1, 1), ("c", 0, 2, 1)]
        self.assertEqual(in_the_way(one_place(3, [0, 0, 0], rights)), [])
        self.assertEqual(in_the_way(one_place(3, [4, 0, 4], rights)), [("a", "b")])
        self.assertEqual(in_the_way(one_place(3, [4, None, 0], rights)), [("a", "b"), ("a", "c"), ("b", "c")])

    def test_by_seasons_without_the_elder_one(self):
        choice = random.Random(163)
        for _ in range(150):
            season = some_season(choice, most_spots=4)
            found = []
            for at, elder in enumerate(season.rights.names):
                for younger in season.rights.names[at + 1:]:
                    struck = Season(season.river, season.first, season.last, season.water, season.rights.without(elder))
                    if not never_loses(struck, season, younger):
                        found.append((elder, younger))
                    for rains in [some_rains(choice, season) for _ in range(3)]:
                        if deal(struck, rains)[younger] > deal(season, rains)[younger]:
                            self.assertIn((elder, younger), found)
            self.assertEqual(in_the_way(season), sorted(found))


class ErrorsTest(unittest.TestCase):
    def test_seasons(self):
        season = one_place(1, [None], [("a", 0, 0, 1)])
        others = [thing for thing in any_values() if not isinstance(thing, Season)]
        for ask, more in [(losers, [])] + [(ask, [None, *more]) for ask, more in BY_NAME]:
            for thing in others:
                for two in [(thing, None), (thing, season), (season, thing)]:
                    with self.assertRaises(BadSeason):
                        ask(*two, *more)
        for thing in others:
            with self.assertRaises(BadSeason):
                in_the_way(thing)

    def test_other_spots(self):
        season = one_place(2, [None], [("a", 0, 0, 1)])
        river = River([Day([0, 0], [(0, 0), (0, 0)], rain_between([0, 0], [0, 0]))])
        others = [one_place(1, [None], [("a", 0, 0, 1)]), one_place(3, [None], [("a", 0, 0, 1)]),
                  Season(season.river, 1, 2, (0,), Rights([("a", 0, 1, 1)])), Season(river, 0, 1, (0, 0), Rights()),
                  Season(river, 0, 0, (0, 0), Rights())]
        for other in others:
            for two in [(season, other), (other, season)]:
                for ask, more in [(losers, [])] + [(ask, [None, *more]) for ask, more in BY_NAME]:
                    with self.assertRaises(OtherSpots):
                        ask(*two, *more)
        lagged = Season(River([Day([1, 0], [(0, 0), (0, 0)], rain_between([0, 0], [0, 0]))]), 0, 1, (0, 0, 0), Rights())
        self.assertEqual(losers(lagged, Season(river, 0, 1, (0, 0), Rights())), ())

    def test_names(self):
        old = one_place(1, [None], [("a", 0, 0, 1), ("b", 0, 0, 1)])
        new = one_place(1, [None], [("a", 0, 0, 1), ("c", 0, 0, 1)])
        for ask, more in BY_NAME:
            for name in ["b", "c", "d", "", None, 0, ("a",), ["a"], {}, {"a": 1}]:
                with self.assertRaises(BadName) as caught:
                    ask(old, new, name, *more)
                self.assertEqual(caught.exception.name, name)

    def test_too_many(self):
        self.assertEqual(len(can_have(many_spots(5), many_spots(5).rights.names).sums), 32)
        small, great = many_spots(5), many_spots(6)
        for ask, more in BY_NAME:
            for two in [(small, great), (great, small), (great, great)]:
                ask(*two, "e", *more)
            with self.assertRaises(TooMany) as caught:
                ask(great, great, "f", *more)
            self.assertEqual(caught.exception.most, 60)
            with self.assertRaises(BadName):
                ask(small, great, "f", *more)
        for two in [(great, great)]:
            with self.assertRaises(TooMany) as caught:
                losers(*two)
            self.assertEqual(caught.exception.most, 60)
        self.assertEqual(losers(small, great), ())
        with self.assertRaises(TooMany) as caught:
            in_the_way(great)
        self.assertEqual(caught.exception.most, 60)
        self.assertEqual(in_the_way(small), [])

    def test_each_lot_that_is_looked_at(self):
        many = many_spots(6).rights.rights
        behind = Rights([*many, ("z", 3, 2, 9)])
        ahead = Rights([("z", 3, 2, 9), *many])
        season = many_spots(6)
        old, new = (Season(season.river, 0, 2, season.water, rights) for rights in (ahead, behind))
        self.assertIs(never_loses(old, old, "z"), True)
        for two in [(old, new), (new, old), (new, new)]:
            with self.assertRaises(TooMany):
                never_loses(*two, "z")

    def test_sixty_and_sixty_one(self):
        for rooms, amounts, needed in [([3, 3, 3, 2, 4, 0, 4, 4], [6, 3, 1, 1, 2, 4, 6, 4], 60),
                                       ([2, 4, 3, 2, 3, 1, 1, 2], [3, 2, 4, 1, 1, 1, 4, 1], 61)]:
            rights = [("abcdefgh"[at], 0, at, amount) for at, amount in enumerate(amounts)]
            season, fewer = one_place(8, rooms, rights), one_place(8, rooms, rights[:6] + rights[7:])
            self.assertEqual(len(can_have(season, tuple("abcdefgh")).sums), needed)
            self.assertLess(len(can_have(season, tuple("abcdefg")).sums), 60)
            self.assertLess(len(can_have(fewer, tuple("abcdefh")).sums), 60)
            for ask, more in BY_NAME:
                ask(season, season, "g", *more)
                ask(fewer, fewer, "h", *more)
                for two in [(season, season), (season, fewer), (fewer, season)]:
                    if needed == 60:
                        ask(*two, "h", *more)
                    else:
                        with self.assertRaises(TooMany) as caught:
                            ask(*two, "h", *more)
                        self.assertEqual(caught.exception.most, 60)
            if needed == 60:
                self.assertEqual(losers(season, season), ())
                self.assertEqual(in_the_way(season), sorted(in_the_way(season)))
            else:
                for ask, told in [(losers, (season, fewer)), (losers, (fewer, season)), (in_the_way, (season,))]:
                    with self.assertRaises(TooMany):
                        ask(*told)


if __name__ == "__main__":
    unittest.main()
