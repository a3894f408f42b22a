"""Known rain: point 110."""

import random
import unittest

from blindweirs.days import Day, River, rain_between
from blindweirs.errors import BadNumber, BadRiver, BadRows, BadWater
from blindweirs.kept import comes_from
from blindweirs.nets import is_known_ring, known, known_plan, known_ring, net
from blindweirs.steps import first_unsound
from blindweirs.tables import Table, nothing, sums
from brute import all_that_keep, any_values, highest_of, some_known

CALLS = [(net, []), (known, []), (known_ring, []), (known_plan, []), (is_known_ring, [None])]


def plain_river():
    return River([Day([0], [(0, 2)], rain_between([0], [3]), None, Table(1, {(1, 0): 5}))])


def two_places():
    """A way of one day between two places, with takes and an outlet without a greatest release."""
    marks = Table(3, {(1, 0): 9, (3, 1): 7, (0, 3): -1, (2, 0): 8, (1, 2): -1})
    return River([Day([1, 0], [(1, 4), (2, None)], rain_between([0, 0], [5, 5]), [1, 2], marks)])


def by_the_words(river, first, rows, water):
    """The net as the point tells it, bound by bound."""
    lags = river.lags
    cells = [(place, step) for place, lag in enumerate(lags) for step in range(lag + 1)]
    told = {}

    def node(number, point):
        return 0 if point == 0 or number < first else (number, point)

    def tell(x, y, number):
        told.setdefault((x, y), []).append(number)

    for at, row in enumerate(rows):
        number = first + at
        day = river.day_on(number)
        for (a, b), bound in day.marks.bounds.items():
            tell(node(number, a), node(number, b), bound)
        for k in range(1, len(cells) + 1):
            tell(node(number, k - 1), (number, k), 0)
            place, step = cells[k - 1]
            p = k if step == 0 else k - 1
            above = len({place for place, _ in cells[:p]})
            e = (sum(water[:p]) if at == 0 else 0) + sum(row[:above]) - sum(day.takes[:above])
            least, greatest = day.outlets[place] if step == 0 else (0, 0)
            if greatest is not None:
                tell(node(number - 1, p), (number, k), greatest - e)
            tell((number, k), node(number - 1, p), e - least)
    return {pair: min(numbers) for pair, numbers in told.items()}


def flat(node):
    return (-1, -1) if node == 0 else node


class NetTest(unittest.TestCase):
    def test_one_place(self):
        river = plain_river()
        self.assertEqual(net(river, 0, [(3,)], (4,)), {(0, (0, 1)): -5, ((0, 1), 0): 5})
        self.assertEqual(net(river, 7, [(3,), (1,)], (4,)),
                         {(0, (7, 1)): -5, (0, (8, 1)): 0, ((7, 1), 0): 5, ((7, 1), (8, 1)): 1,
                          ((8, 1), 0): 5, ((8, 1), (7, 1)): 1})
        # Of what is told twice the lesser one stands: the evening is not below 0, and what comes in is not lost.
        self.assertEqual(net(river, 0, [(0,)], (1,)), {(0, (0, 1)): 0, ((0, 1), 0): 1})
        self.assertEqual(net(river, 0, [(0,)], (-9,)), {(0, (0, 1)): 0, ((0, 1), 0): -9})

    def test_a_way(self):
        self.assertEqual(net(two_places(), 5, [(3, 1)], (4, 5, 6)),
                         {(0, (5, 1)): -2, (0, (5, 2)): -6, (0, (5, 3)): -1,
                          ((5, 1), 0): 5, ((5, 1), (5, 2)): -1, ((5, 2), 0): 6, ((5, 2), (5, 3)): 0,
                          ((5, 3), 0): 14, ((5, 3), (5, 1)): 7})

    def test_outlets_without_a_greatest_release(self):
        river = River([Day([0, 0], [(0, None), (0, None)], rain_between([0, 0], [1, 1]))])
        self.assertEqual(net(river, 0, [(1, 1), (0, 1)], (2, 3)),
                         {(0, (0, 1)): 0, (0, (1, 1)): 0, ((0, 1), 0): 3, ((0, 1), (0, 2)): 0, ((0, 2), 0): 7,
                          ((1, 1), (0, 1)): 0, ((1, 1), (1, 2)): 0, ((1, 2), (0, 2)): 1})

    def test_against_the_words(self):
        choice = random.Random(110)
        for _ in range(200):
            told = some_known(choice)
            found = net(*told)
            self.assertEqual(found, by_the_words(*told))
            order = [(flat(x), flat(y)) for x, y in found]
            self.assertEqual(order, sorted(order))
            for x, y in found:
                self.assertIs(type(found[(x, y)]), int)
                self.assertNotEqual(x, y)

    def test_forty_days(self):
        river = two_places()
        rows = [(3, 1)] * 40
        self.assertEqual(net(river, 10 ** 7, rows, (4, 5, 6)), by_the_words(river, 10 ** 7, rows, (4, 5, 6)))
        self.assertEqual(len(known_plan(plain_river(), 3, [(2,)] * 40, (5,))), 40)
        self.assertIs(known(plain_river(), 3, [(2,)] * 39 + [(3,)], (5,)), False)
        for call, more in CALLS:
            with self.assertRaises(BadRows) as caught:
                call(river, 0, rows + [(3, 1)], None, *more)
            self.assertIsNone(caught.exception.at)

    def test_what_is_returned_is_new(self):
        river = plain_river()
        net(river, 0, [(3,)], (4,)).clear()
        self.assertEqual(len(net(river=river, first=0, rows=[(3,)], water=(4,))), 2)

    def test_errors(self):
        day = plain_river().day_on(0)
        river = River([day, day.with_rain(rain_between([1], [7]))])
        for call, more in CALLS:
            for thing in [None, (), day, 0]:
                with self.assertRaises(BadRiver):
                    call(thing, None, None, None, *more)
            for first in [None, -1, True, "0", (0,)]:
                with self.assertRaises(BadNumber):
                    call(river, first, None, None, *more)
            for rows in [None, [], (), 0, "1", {}, {0: (1,)}]:
                with self.assertRaises(BadRows) as caught:
                    call(river, 0, rows, None, *more)
                self.assertIsNone(caught.exception.at)
            for rows, at in [([(4,)], 0), ([(3,), (0,)], 1), ([(3,), (7,), (4,)], 2), ([(1,), [1]], 1), ([[1]], 0),
                             ([(1,), (True,)], 1), ([(1, 1)], 0), ([()], 0), ([None], 0), ([1], 0), (["1"], 0), ([(-1,)], 0)]:
                with self.assertRaises(BadRows) as caught:
                    call(river, 0, rows, None, *more)
                self.assertEqual(caught.exception.at, at)
            with self.assertRaises(BadRows) as caught:
                call(river, 1, [(3,), (7,)], None, *more)
            self.assertEqual(caught.exception.at, 1)
            for water in [None, (), (1, 1), [1], (True,), 1]:
                with self.assertRaises(BadWater):
                    call(river, 0, [(3,), (7,)], water, *more)
            call(river, 1, ((7,), (3,)), (-5,), *more)


class KnownTest(unittest.TestCase):
    def test_one_reservoir(self):
        river = plain_river()
        self.assertEqual(known_plan(river, 0, [(3,), (3,)], (3,)), [(2,), (2,)])
        self.assertEqual(known_plan(river, 0, [(3,), (3,), (0,)], (3,)), [(2,), (2,), (0,)])
        self.assertEqual(known_plan(river, 0, [(0,), (3,)], (3,)), [(0,), (1,)])
        self.assertIs(known(river, 0, [(3,), (3,)], (3,)), True)
        self.assertIs(known(river, 0, [(3,), (3,)], (4,)), False)
        self.assertIsNone(known_plan(river, 0, [(3,), (3,)], (4,)))
        self.assertIsNone(known_ring(river, 0, [(3,), (3,), (3,)], (2,)))

    def test_waters_below_0(self):
        river = plain_river()
        self.assertIs(known(river, 0, [(3,)], (-3,)), True)
        self.assertIs(known(river, 0, [(3,)], (-4,)), False)
        self.assertEqual(known_plan(river, 0, [(3,)], (-3,)), [(0,)])
        self.assertTrue(is_known_ring(river, 0, [(3,)], (-4,), [0, (0, 1)]))

    def test_against_trying_all_releases(self):
        choice = random.Random(111)
        seen = {}
        for _ in range(300):
            told = some_known(choice)
            found = all_that_keep(*told[:3], told[3])
            self.assertIs(known(*told), bool(found))
            seen[bool(found)] = True
            plan = known_plan(*told)
            loop = known_ring(*told)
            if not found:
                self.assertIsNone(plan)
                self.assertIs(is_known_ring(*told, loop), True)
                self.assertIsInstance(loop, list)
                continue
            self.assertIsNone(loop)
            self.assertEqual(plan, highest_of(found))
            self.assertIsNone(first_unsound(told[0], told[1], told[3], told[2], plan))
        self.assertEqual(len(seen), 2)

    def test_a_plan_is_a_list_of_tuples(self):
        plan = known_plan(river=two_places(), first=0, rows=[(5, 5), (0, 0)], water=(4, 2, 3))
        self.assertIsInstance(plan, list)
        self.assertTrue(all(isinstance(told, tuple) for told in plan))

    def test_marks_that_no_water_fits(self):
        river = River([plain_river().day_on(0).with_marks(nothing(1))])
        self.assertIs(known(river, 0, [(0,)], (0,)), False)
        self.assertTrue(is_known_ring(river, 0, [(0,)], (0,), known_ring(river, 0, [(0,)], (0,))))


class RingTest(unittest.TestCase):
    def setUp(self):
        self.told = (plain_river(), 4, [(3,), (3,), (3,)], (4,))

    def test_rings(self):
        found = known_ring(*self.told)
        for at in range(len(found)):
            turned = found[at:] + found[:at]
            self.assertIs(is_known_ring(*self.told, turned), True)
            self.assertIs(is_known_ring(*self.told, tuple(turned)), True)
        bounds = net(*self.told)
        steps = list(zip(found, found[1:] + found[:1]))
        self.assertLess(sum(bounds[step] for step in steps), 0)
        self.assertEqual(len(set(found)), len(found))

    def test_each_ring_by_its_sum(self):
        # The water may be 5 at most behind each day, and must be 7, 8 and so on less what is let down.
        for loop, told in [([0, (4, 1), (5, 1), (6, 1)], True), ([(4, 1), (5, 1), (6, 1), 0], True), ([0, (4, 1), (5, 1)], True),
                           ([0, (4, 1)], False), ([0, (6, 1), (5, 1), (4, 1)], False), ([0, (5, 1), (6, 1)], False)]:
            bounds = net(*self.told)
            total = sum(bounds[step] for step in zip(loop, loop[1:] + loop[:1]))
            self.assertIs(is_known_ring(*self.told, loop), total < 0)
            self.assertIs(total < 0, told, (loop, total))

    def test_a_sum_of_just_0(self):
        river = plain_river()
        for come in [(3,), (2,)]:
            self.assertIs(is_known_ring(river, 0, [come, come], (3,), [0, (0, 1), (1, 1)]), False)
        self.assertEqual(sum([net(river, 0, [(3,), (3,)], (3,))[pair] for pair in [(0, (0, 1)), ((0, 1), (1, 1)), ((1, 1), 0)]]), 0)
        self.assertIs(is_known_ring(river, 0, [(3,), (3,)], (4,), [0, (0, 1), (1, 1)]), True)

    def test_any_value(self):
        loop = [0, (4, 1), (5, 1), (6, 1)]
        wrong = [[], [0], [(4, 1)], loop + loop, loop + [0], [0, (4, 1), (4, 1), (5, 1), (6, 1)], [False] + loop[1:],
                 [0, (4, True), (5, 1), (6, 1)], [0, [4, 1], (5, 1), (6, 1)], [0, (4, 1), (6, 1), (5, 1)], [0, (4, 1, 1), (5, 1), (6, 1)],
                 [(4, 0)] + loop[1:], [(3, 1)] + loop[1:], [(7, 1)] + loop[1:], [0, (4, 2), (5, 1), (6, 1)], [1] + loop[1:],
                 ["0"] + loop[1:], [None] + loop[1:], [-1] + loop[1:], {0: 0}, dict.fromkeys(loop), loop[::-1], (loop,), [loop],
                 [0, (4, (1,)), (5, 1), (6, 1)], [0, ([4], 1), (5, 1), (6, 1)], [(True, 1)] + loop[1:]]
        for thing in [*wrong, *any_values()]:
            self.assertIs(is_known_ring(*self.told, thing), False, thing)
        self.assertIs(is_known_ring(*self.told, loop), True)
        early = (plain_river(), 0, [(3,), (3,), (3,)], (4,))
        self.assertIs(is_known_ring(*early, [0, (0, 1), (1, 1), (2, 1)]), True)
        for thing in [[0, (0, 1), (True, 1), (2, 1)], [0, (False, 1), (1, 1), (2, 1)], [0, (0, True), (1, 1), (2, 1)]]:
            self.assertIs(is_known_ring(*early, thing), False)
