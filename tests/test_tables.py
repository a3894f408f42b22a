"""Tables: points 10, 11 and 12, and what point 3 says of them."""

import random
import unittest

from blindweirs.errors import BadPoints, BadRain, BadTable, BadWater, OtherSize
from blindweirs.tables import (Table, a_water, both, closed, hidden, highest, is_empty, is_ring, is_same, is_water,
                               is_within, lowest, nothing, ring, sums, worn)
from brute import any_values, fitting, some_table, waters

BOX = 3


def box(size, least=-BOX, most=BOX):
    bounds = {(cell + 1, cell): most for cell in range(size)}
    bounds.update({(cell, cell + 1): -least for cell in range(size)})
    return Table(size, bounds)


def boxed(choice, size):
    return both(some_table(choice, size, -2, 3, 0.5), box(size))


class WaterTest(unittest.TestCase):
    def test_is_water(self):
        for thing in [(0,), (1, -2), tuple(range(12)), (10 ** 12,), (-10 ** 12, 5)]:
            self.assertIs(is_water(thing), True, thing)
        for thing in [(), tuple(range(13)), [0], [1, 2], (True,), (0, False), (None,), ("1",), ((1,),), {0: 1}]:
            self.assertIs(is_water(thing), False, thing)
        for thing in any_values():
            self.assertIs(is_water(thing), False, thing)

    def test_sums(self):
        self.assertEqual(sums((5,)), (0, 5))
        self.assertEqual(sums((3, -4, 2)), (0, 3, -1, 1))
        self.assertEqual(sums(water=(1,) * 12), tuple(range(13)))
        for thing in [*any_values(), (), [1], (1,) * 13]:
            with self.assertRaises(BadWater):
                sums(thing)


class TableTest(unittest.TestCase):
    def test_properties(self):
        told = {(2, 0): 4, (0, 1): -1, (1, 0): 3}
        table = Table(2, told)
        told[(0, 2)] = 9
        self.assertEqual(table.size, 2)
        self.assertEqual(list(table.bounds.items()), [((0, 1), -1), ((1, 0), 3), ((2, 0), 4)])
        table.bounds[(0, 1)] = 7
        self.assertEqual(table.bounds[(0, 1)], -1)
        self.assertEqual(Table(size=3, bounds=None).bounds, {})
        self.assertEqual(Table(1), Table(1, {}))
        self.assertEqual(Table(12).size, 12)

    def test_size(self):
        for size in [0, -1, 13, True, False, None, "1", [1], (1,), {}, 10 ** 12, Table(1)]:
            with self.assertRaises(BadTable) as caught:
                Table(size, {("no", "bounds"): None})
            self.assertEqual(caught.exception.part, "size")

    def test_bounds(self):
        wrong = [{(0, 0): 1}, {(0, 3): 1}, {(-1, 0): 1}, {(0, 1): True}, {(True, 0): 1}, {(0, False): 1},
                 {(0, 1): None}, {(0, 1): "1"}, {(0, 1, 2): 1}, {(0,): 1}, {0: 1}, {"01": 1}, {None: 1},
                 {((0,), 1): 1}, [((0, 1), 1)], (), [], "", 0, True, False, Table(2), {(0, 1): 1, (2, 2): 1}]
        for bounds in wrong:
            with self.assertRaises(BadTable) as caught:
                Table(2, bounds)
            self.assertEqual(caught.exception.part, "bounds", bounds)

    def test_equality(self):
        one = Table(2, {(0, 1): 1, (1, 2): 2})
        self.assertEqual(one, Table(2, {(1, 2): 2, (0, 1): 1}))
        self.assertNotEqual(one, Table(3, {(0, 1): 1, (1, 2): 2}))
        self.assertNotEqual(one, Table(2, {(0, 1): 1}))
        self.assertNotEqual(one, closed(one))
        for thing in [None, 2, (2, {}), {(0, 1): 1, (1, 2): 2}, "table"]:
            self.assertFalse(one == thing)
            self.assertTrue(one != thing)

    def test_no_iteration(self):
        with self.assertRaises(TypeError):
            iter(Table(2))
        with self.assertRaises(TypeError):
            list(Table(2))

    def test_fits(self):
        table = Table(2, {(2, 0): 4, (0, 1): -1})
        self.assertIs(table.fits((1, 3)), True)
        self.assertIs(table.fits((1, 4)), False)
        self.assertIs(table.fits((0, 1)), False)
        self.assertIs(table.fits((9, -5)), True)
        self.assertIs(Table(2).fits(water=(-9, 10 ** 12)), True)
        # b behind a: at least the bound with the other sign lies between.
        self.assertEqual([k for k in range(5) if Table(1, {(0, 1): -3}).fits((k,))], [3, 4])
        self.assertEqual([k for k in range(5) if Table(1, {(1, 0): 3}).fits((k,))], [0, 1, 2, 3])
        for thing in [[1, 2], (True, 1), None, (1,) * 13, ()]:
            with self.assertRaises(BadWater):
                table.fits(thing)
        for thing in [(1,), (1, 2, 3)]:
            with self.assertRaises(OtherSize):
                table.fits(thing)


class ClosedTest(unittest.TestCase):
    def test_nothing(self):
        for size in range(1, 13):
            self.assertEqual(nothing(size), Table(size, {(0, 1): -1, (1, 0): 0}))
            self.assertTrue(is_empty(nothing(size)))
        for size in [0, 13, True, None, "1", (1,)]:
            with self.assertRaises(BadTable) as caught:
                nothing(size=size)
            self.assertEqual(caught.exception.part, "size")

    def test_closed(self):
        table = Table(2, {(2, 1): 3, (1, 0): 2, (0, 2): 0})
        self.assertEqual(closed(table).bounds,
                         {(0, 1): 3, (0, 2): 0, (1, 0): 2, (1, 2): 2, (2, 0): 5, (2, 1): 3})
        self.assertEqual(closed(Table(2, {(2, 0): 9, (2, 1): 3, (1, 0): 2})).bounds,
                         {(1, 0): 2, (2, 0): 5, (2, 1): 3})
        self.assertEqual(closed(Table(3)), Table(3))
        self.assertEqual(closed(closed(table)), closed(table))
        self.assertEqual(closed(Table(3, {(2, 3): 1, (3, 2): -2})), nothing(3))

    def test_pairs_without_a_bound_stay_without(self):
        table = closed(Table(3, {(0, 1): 1, (1, 0): 2}))
        self.assertEqual(table.bounds, {(0, 1): 1, (1, 0): 2})

    def test_closed_tells_the_greatest_differences(self):
        choice = random.Random(1)
        for _ in range(150):
            table = boxed(choice, choice.randint(1, 3))
            fit = fitting(table, -BOX, BOX)
            self.assertEqual(is_empty(table), not fit)
            if not fit:
                self.assertEqual(closed(table), nothing(table.size))
                continue
            points = range(table.size + 1)
            greatest = {(a, b): max(sums(water)[a] - sums(water)[b] for water in fit)
                        for a in points for b in points if a != b}
            self.assertEqual(closed(table).bounds, greatest)

    def test_no_table(self):
        for function in [closed, is_empty, ring, highest, lowest, a_water]:
            for thing in [value for value in any_values() if not isinstance(value, Table)]:
                with self.assertRaises(BadTable) as caught:
                    function(table=thing)
                self.assertIsNone(caught.exception.part)


class RingTest(unittest.TestCase):
    def test_sums_of_just_nothing_and_just_less(self):
        even = Table(3, {(0, 1): 2, (1, 3): -3, (3, 0): 1})
        self.assertIsNone(ring(even))
        self.assertFalse(is_ring(even, [0, 1, 3]))
        self.assertFalse(is_empty(even))
        less = Table(3, {(0, 1): 2, (1, 3): -3, (3, 0): 0})
        self.assertEqual(sorted(ring(less)), [0, 1, 3])
        for thing in [[0, 1, 3], [1, 3, 0], (3, 0, 1)]:
            self.assertIs(is_ring(less, thing), True)
        self.assertTrue(is_empty(less))

    def test_wrong_rings(self):
        less = Table(3, {(0, 1): 2, (1, 3): -3, (3, 0): 0, (2, 1): -9, (1, 0): -1, (0, 2): 5})
        wrong = [[0, 3, 1], [0, 1], [1], [], [0, 1, 3, 0], [0, 1, 3, 0, 1, 3], [False, 1, 3], [0, True, 3],
                 [0, 1, 4], [-1, 0], {0: 1, 1: 3, 3: 0}, "013", [2, 1], [[0, 1, 3]], [0, "1", 3], [0, None]]
        for thing in [*wrong, *any_values()]:
            self.assertIs(is_ring(less, thing), False, thing)
        with self.assertRaises(BadTable) as caught:
            is_ring(None, [0, 1])
        self.assertIsNone(caught.exception.part)

    def test_rings_of_nothing(self):
        self.assertTrue(is_ring(nothing(4), [0, 1]))
        self.assertTrue(is_ring(nothing(4), ring(nothing(4))))

    def test_a_ring_exactly_if_no_water_fits(self):
        choice = random.Random(2)
        for _ in range(300):
            table = some_table(choice, choice.randint(1, 12), -3, 9, choice.choice([0.1, 0.3, 0.9]))
            found = ring(table)
            self.assertEqual(found is None, not is_empty(table))
            if found is None:
                self.assertTrue(table.fits(a_water(table)))
            else:
                self.assertIsInstance(found, list)
                self.assertTrue(is_ring(table, found))
                self.assertIsNone(a_water(table))


class ComparedTest(unittest.TestCase):
    def test_within(self):
        choice = random.Random(3)
        for _ in range(150):
            size = choice.randint(1, 3)
            one, other = boxed(choice, size), boxed(choice, size)
            first, second = fitting(one, -BOX, BOX), fitting(other, -BOX, BOX)
            self.assertIs(is_within(one, other), set(first) <= set(second))
            self.assertIs(is_same(one, other), first == second)
            self.assertEqual(fitting(both(one, other), -BOX, BOX), [water for water in first if water in second])
            self.assertTrue(is_within(one, one) and is_same(one, one))
            self.assertTrue(is_same(one, closed(one)) and is_same(closed(one), one))

    def test_tables_that_no_water_fits(self):
        empty, other = Table(2, {(1, 2): -1, (2, 1): 0}), nothing(2)
        self.assertTrue(is_within(empty, Table(2)) and is_within(empty, other) and is_same(empty, other))
        self.assertFalse(is_within(Table(2), empty) or is_same(Table(2, {(0, 1): 1}), empty))

    def test_bounds_that_say_nothing_new(self):
        one = Table(2, {(1, 0): 2, (2, 1): 3})
        more = Table(2, {(1, 0): 2, (2, 1): 3, (2, 0): 5})
        self.assertTrue(is_same(one, more) and is_same(more, one))
        self.assertNotEqual(one, more)
        self.assertFalse(is_within(one, Table(2, {(2, 0): 4})))
        self.assertFalse(is_within(one, Table(2, {(0, 2): 4})))
        self.assertTrue(is_within(one, Table(2)))

    def test_both(self):
        one, other = Table(2, {(0, 1): 1, (2, 0): 5}), Table(2, {(0, 1): -1, (1, 0): 4, (2, 0): 6})
        self.assertEqual(list(both(one, other).bounds.items()), [((0, 1), -1), ((1, 0), 4), ((2, 0), 5)])
        self.assertEqual(both(one=one, other=one), one)
        self.assertEqual(one, Table(2, {(0, 1): 1, (2, 0): 5}))

    def test_errors(self):
        for function in [is_within, is_same, both]:
            for one, other, part in [(None, None, "one"), (Table(1), None, "other"), (Table(1), True, "other"),
                                     ((1, {}), Table(2), "one")]:
                with self.assertRaises(BadTable) as caught:
                    function(one, other)
                self.assertEqual(caught.exception.part, part)
            with self.assertRaises(OtherSize):
                function(Table(1), Table(2))
            with self.assertRaises(OtherSize):
                function(one=nothing(3), other=nothing(2))


class EndsTest(unittest.TestCase):
    def test_highest_and_lowest(self):
        choice = random.Random(4)
        for _ in range(150):
            table = boxed(choice, choice.randint(1, 3))
            fit = fitting(table, -BOX, BOX)
            if not fit:
                self.assertEqual((highest(table), lowest(table), a_water(table)), (None, None, None))
                continue
            points = range(table.size + 1)
            self.assertIn(highest(table), fit)
            self.assertIn(lowest(table), fit)
            self.assertIn(a_water(table), fit)
            self.assertEqual(sums(highest(table)), tuple(max(sums(water)[k] for water in fit) for k in points))
            self.assertEqual(sums(lowest(table)), tuple(min(sums(water)[k] for water in fit) for k in points))

    def test_sums_without_an_end(self):
        table = Table(2, {(1, 0): 4, (0, 1): -2, (0, 2): 1})
        self.assertIsNone(highest(table))
        self.assertEqual(lowest(table), (2, -3))
        table = Table(2, {(2, 1): 3, (1, 0): 4, (0, 1): 2})
        self.assertEqual(highest(table), (4, 3))
        self.assertIsNone(lowest(table))
        self.assertEqual((highest(Table(1)), lowest(Table(1))), (None, None))
        table = Table(2, {(0, 1): -2, (1, 2): 3})
        self.assertEqual((highest(table), lowest(table)), (None, (2, -3)))
        table = Table(2, {(2, 1): 1, (1, 0): 4})
        self.assertEqual((highest(table), lowest(table)), ((4, 1), None))
        self.assertTrue(is_water(a_water(Table(12))))
        self.assertTrue(is_water(a_water(Table(1))))


class HiddenTest(unittest.TestCase):
    def test_hidden_is_what_the_waters_have_there(self):
        choice = random.Random(5)
        for _ in range(100):
            table = boxed(choice, choice.randint(2, 3))
            many = choice.randint(0, table.size - 1)
            points = tuple(sorted(choice.sample(range(1, table.size + 1), many)))
            left = [point for point in range(table.size + 1) if point not in points]
            seen = {tuple(sums(water)[b] - sums(water)[a] for a, b in zip(left, left[1:]))
                    for water in fitting(table, -BOX, BOX)}
            found = hidden(table, points)
            self.assertEqual(found.size, table.size - many)
            self.assertEqual(closed(found), found)
            self.assertEqual(set(fitting(found, -9, 9)), seen)

    def test_ends(self):
        table = Table(3, {(1, 0): 2, (2, 1): 3, (3, 2): 4, (0, 3): -1})
        self.assertEqual(hidden(table, ()), closed(table))
        self.assertEqual(hidden(table, (1, 2)), Table(1, {(1, 0): 9, (0, 1): -1}))
        self.assertEqual(hidden(table=table, points=(2, 3)), Table(1, {(1, 0): 2, (0, 1): 6}))
        self.assertEqual(hidden(nothing(3), (1, 3)), nothing(1))
        self.assertEqual(hidden(Table(3, {(2, 3): -1, (3, 2): 0}), (2,)), nothing(2))

    def test_wrong_points(self):
        wrong = [[], [1], (0,), (4,), (1, 1), (2, 1), (1, 2, 3), (True,), ("1",), (1, None), None, 1, {}, "", {1: 2}]
        for points in wrong:
            with self.assertRaises(BadPoints):
                hidden(Table(3), points)
        with self.assertRaises(BadPoints):
            hidden(Table(1), (1,))
        with self.assertRaises(BadTable) as caught:
            hidden(None, None)
        self.assertIsNone(caught.exception.part)


class WornTest(unittest.TestCase):
    def test_worn_fits_whatever_is_added(self):
        choice = random.Random(6)
        for _ in range(80):
            size = choice.randint(1, 2)
            table, rain = some_table(choice, size, -2, 4, 0.6), boxed(choice, size)
            rows = fitting(rain, -BOX, BOX)
            if not rows:
                continue
            found = worn(table, rain)
            self.assertEqual(closed(found), found)
            for water in waters(size, -6, 6):
                added = [tuple(cell + drop for cell, drop in zip(water, row)) for row in rows]
                self.assertEqual(found.fits(water), all(table.fits(lying) for lying in added))

    def test_numbers_below_zero(self):
        rain = Table(1, {(1, 0): -1, (0, 1): 3})
        self.assertEqual(worn(Table(1, {(1, 0): 4, (0, 1): 0}), rain), Table(1, {(1, 0): 5, (0, 1): -3}))

    def test_nothing_is_left(self):
        rain = Table(1, {(1, 0): 3, (0, 1): 0})
        self.assertEqual(worn(Table(1, {(1, 0): 2, (0, 1): 0}), rain), nothing(1))
        self.assertEqual(worn(nothing(1), rain), nothing(1))
        self.assertEqual(worn(Table(1), rain), Table(1))
        self.assertEqual(worn(Table(1, {(1, 0): 3, (0, 1): 0}), rain), Table(1, {(1, 0): 0, (0, 1): 0}))

    def test_errors(self):
        rain = box(2)
        for wrong in [None, (), {}, Table(2), Table(2, {(1, 0): 1, (0, 1): 1}), nothing(2), nothing(1), Table(1),
                      Table(2, {(1, 0): 1, (2, 1): 1, (0, 1): 1})]:
            with self.assertRaises(BadRain):
                worn(Table(2), wrong)
        with self.assertRaises(OtherSize):
            worn(table=Table(3), rain=rain)
        with self.assertRaises(BadTable) as caught:
            worn(0, None)
        self.assertIsNone(caught.exception.part)
        # A rain may be bounded by what its bounds tell together.
        self.assertEqual(worn(Table(2), Table(2, {(2, 0): 3, (0, 1): 0, (1, 2): 0})), Table(2))
