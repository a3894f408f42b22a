"""The book of the rain: points 50 and 51."""

import random
import unittest

from blindweirs.days import Day, River, cells_of, rain_between
from blindweirs.errors import BadNumber, BadReasons, BadRiver, BadWater, NoRain
from blindweirs.kept import can_keep
from blindweirs.reasons import book, is_book, next_by, row_by
from blindweirs.steps import evening, is_sound
from blindweirs.tables import Table, nothing, sums
from brute import any_values, some_river, waters

MARK = ("mark",)


def plain_river():
    return River([Day([0], [(0, 2)], rain_between([0], [3]), None, Table(1, {(1, 0): 5}))])


PLAIN = [("evening", 1, 1, 0, 5, MARK), ("morning", 1, 1, 0, 4, ("rain", 0)), ("evening", 0, 1, 0, 4, ("next", 1)),
         ("morning", 0, 1, 0, 3, ("rain", 2))]


def broken_by(water, reason):
    heights = sums(water)
    return heights[reason[2]] - heights[reason[3]] > reason[4]


class BookTest(unittest.TestCase):
    def test_a_book_exactly_if_the_water_cannot_be_kept(self):
        choice = random.Random(1)
        seen = {True: 0, False: 0}
        for _ in range(60):
            river = some_river(choice)
            first = choice.randint(0, 3)
            last = first + choice.choice([0, 1, 2, 7])
            size = len(cells_of(river.lags))
            for water in choice.sample(waters(size, -1, 3), 4):
                found = book(river, first, last, water)
                kept = can_keep(river, first, last, water)
                seen[kept] += 1
                self.assertEqual(found is None, kept)
                if found is not None:
                    self.assertIsInstance(found, list)
                    self.assertIs(is_book(river, first, last, water, found), True)
                    self.assertTrue(is_book(river, first, last, water, tuple(found)))
                    self.play(choice, river, first, last, water, found)
        self.assertGreater(min(seen.values()), 20)

    def play(self, choice, river, first, last, water, reasons):
        at = len(reasons) - 1
        while at is not None:
            when, number, _, _, _, why = reasons[at]
            self.assertTrue(first <= number <= last)
            self.assertTrue(broken_by(water, reasons[at]))
            if why[0] == "rain":
                day = river.day_on(number)
                row = row_by(river, reasons, at)
                self.assertTrue(day.rain.fits(row))
                ends = [(least, least + 5 if most is None else most) for least, most in day.outlets]
                water = evening(day, water, row, [choice.randint(*pair) for pair in ends])
            if why == MARK:
                self.assertFalse(is_sound(river.day_on(number), water))
            at = next_by(reasons, at, water)

    def test_long_stretches(self):
        day = Day([3, 2, 2, 0], [(0, 4)] * 4, rain_between([0] * 4, [2] * 4), [1] * 4,
                  Table(11, {(cell + 1, cell): 20 for cell in range(11)}))
        river = River([day, day.with_takes(None)])
        for water in [(0,) * 11, (21,) * 11, (-1,) * 11, (9,) * 11]:
            found = book(river, 3, 42, water)
            self.assertEqual(found is None, can_keep(river, 3, 42, water))
            if found is not None:
                self.assertTrue(is_book(river, 3, 42, water, found))
                self.play(random.Random(2), river, 3, 42, water, found)

    def test_reasons_over_one_point(self):
        river = River([plain_river().day_on(0), plain_river().day_on(0).with_marks(nothing(1))])
        found = book(river, 0, 1, (2,))
        self.assertTrue(is_book(river, 0, 1, (2,), found))
        self.assertEqual(found[-1][2], found[-1][3])
        self.assertLess(found[-1][4], 0)
        self.play(random.Random(3), river, 0, 1, (2,), found)
        # Nobody lets 3 down where 2 may be, nor less than 1 where 1 must be.
        day = Day([1, 0], [(1, 2), (0, 0)], rain_between([0, 0], [0, 0]))
        for marks in [Table(3, {(1, 2): -3}), Table(3, {(2, 1): 0})]:
            river = River([day.with_marks(marks)])
            found = book(river, 0, 0, (9, 9, 9))
            self.assertTrue(is_book(river, 0, 0, (9, 9, 9), found))
            self.assertEqual(found[-1][2:4], (1, 1))

    def test_errors(self):
        river = plain_river()
        for call in [lambda *told: book(*told), lambda *told: is_book(*told, None)]:
            with self.assertRaises(BadRiver):
                call(None, None, None, None)
            for first, last in [(-1, 0), (True, 1), (0, None), (1, 0), (0, 40), ("0", 0), (0, False)]:
                with self.assertRaises(BadNumber):
                    call(river, first, last, None)
            for water in [None, (), (1, 2), [1], (True,)]:
                with self.assertRaises(BadWater):
                    call(river, 0, 1, water)


class IsBookTest(unittest.TestCase):
    def setUp(self):
        self.river = plain_river()

    def judged(self, thing, water=(4,), first=0, last=1):
        return is_book(self.river, first, last, water, thing)

    def with_part(self, at, part, value):
        reason = list(PLAIN[at])
        reason[part] = value
        return [*PLAIN[:at], tuple(reason), *PLAIN[at + 1:]]

    def test_what_book_tells(self):
        self.assertIs(self.judged(PLAIN), True)
        self.assertTrue(self.judged(tuple(PLAIN)))
        self.assertTrue(is_book(river=self.river, first=0, last=1, water=(4,), thing=PLAIN))
        self.assertTrue(self.judged(book(self.river, 0, 1, (4,))))

    def test_the_water_must_break_the_last_one(self):
        self.assertFalse(self.judged(PLAIN, (3,)))
        self.assertTrue(self.judged(PLAIN, (5,)))
        self.assertFalse(self.judged(PLAIN[:3]))
        self.assertFalse(self.judged(PLAIN[:3], (5,)))
        self.assertFalse(self.judged(PLAIN[:2]))
        self.assertTrue(is_book(self.river, 1, 1, (5,), PLAIN[:2]))
        self.assertFalse(is_book(self.river, 1, 1, (4,), PLAIN[:2]))

    def test_days(self):
        self.assertTrue(self.judged(PLAIN, last=3))
        self.assertFalse(self.judged(PLAIN, last=0))
        self.assertFalse(self.judged(PLAIN, first=1))
        shifted = [(when, day + 5, *rest) for when, day, *rest in PLAIN]
        self.assertTrue(self.judged(shifted, first=5, last=6))
        self.assertFalse(self.judged(shifted, first=0, last=6))
        self.assertFalse(self.judged([*PLAIN, ("morning", 0, 1, 0, 5, MARK)]))

    def test_numbers_one_less_and_one_more(self):
        for at in range(4):
            self.assertFalse(self.judged(self.with_part(at, 4, PLAIN[at][4] - 1)))
        self.assertFalse(self.judged(self.with_part(3, 4, 4)))
        self.assertTrue(self.judged(self.with_part(3, 4, 4), (5,)))
        self.assertFalse(self.judged(self.with_part(0, 4, 6)))

    def test_one_part_otherwise(self):
        for at in range(4):
            for part, values in [(0, ["evening", "morning", "noon", None, 0, ("evening",)]),
                                 (1, [0, 1, 2, -1, True, False, "0", None, 10 ** 30]),
                                 (2, [0, 1, 2, -1, True, None, "1"]), (3, [0, 1, 2, -1, False, None, "0"]),
                                 (4, [True, None, "5", (5,), -10 ** 30]),
                                 (5, [("mark",), ["mark"], "mark", None, (), ("mark", 0), ("rain",), ("next",), ("sum", 0),
                                      ("sum", 0, 0), ("sum", 0, 1), ("sum", 0, 1, 2), ("rain", 0), ("rain", 1),
                                      ("rain", 2), ("rain", 3), ("next", 0), ("next", 1), ("next", 2), ("next", -1),
                                      ("rain", False), ("rain", True), ("next", True), ("next", "1"), ("rain", None),
                                      ["rain", 0], ("luck", 0), (0, 0), (None,), ((),), ([],), ({},),
                                      ("next", 10 ** 30)])]:
                for value in values:
                    same = repr(value) == repr(PLAIN[at][part])
                    self.assertIs(self.judged(self.with_part(at, part, value)), same, (at, part, value))

    def test_forms(self):
        wrong = [[list(reason) for reason in PLAIN], [reason[:5] for reason in PLAIN],
                 [(*reason, 0) for reason in PLAIN], PLAIN[::-1], [], (), {}, {0: PLAIN[0]}, dict(enumerate(PLAIN)),
                 [*PLAIN[:3], None], [None, *PLAIN], PLAIN[0], "book", [PLAIN], [[*PLAIN[3]]]]
        for thing in [*wrong, *any_values()]:
            self.assertIs(self.judged(thing), False, thing)

    def test_reasons_that_nothing_rests_on_must_hold_too(self):
        self.assertTrue(self.judged([("evening", 1, 0, 1, 0, MARK), *[
            (*reason[:5], (reason[5][0], *[index + 1 for index in reason[5][1:]])) for reason in PLAIN]]))
        self.assertFalse(self.judged([("evening", 1, 0, 1, -1, MARK), *[
            (*reason[:5], (reason[5][0], *[index + 1 for index in reason[5][1:]])) for reason in PLAIN]]))


class HoldsTest(unittest.TestCase):
    """Each why alone: a reason stands in a book that is right without it."""

    def setUp(self):
        day = Day([1, 0], [(1, 4), (0, None)], rain_between([1, 0], [3, 2]), [2, 5],
                  Table(3, {(1, 0): 7, (3, 1): 6, (1, 3): -2}))
        other = day.with_marks(nothing(3))
        self.river = River([day, day, other])
        # Nothing can be kept to day 2: this alone shows it for day 0.
        self.ground = [("evening", 2, 0, 1, -1, MARK), ("evening", 2, 1, 0, 0, MARK),
                       ("evening", 2, 0, 0, -1, ("sum", 0, 1)), ("morning", 2, 0, 0, -1, ("rain", 2)),
                       ("evening", 1, 0, 0, -1, ("next", 3)), ("morning", 1, 0, 0, -1, ("rain", 4)),
                       ("evening", 0, 0, 0, -1, ("next", 5))]
        self.end = ("morning", 0, 0, 0, -1, ("rain", 6))

    def holds(self, *reasons):
        return is_book(self.river, 0, 2, (0, 0, 0), [*self.ground, *reasons, self.end])

    def test_ground(self):
        self.assertTrue(self.holds())

    def test_marks(self):
        for a, b, least in [(1, 0, 7), (3, 1, 6), (1, 3, -2), (0, 1, 0), (1, 2, 0), (2, 3, 0)]:
            self.assertTrue(self.holds(("evening", 0, a, b, least, MARK)))
            self.assertTrue(self.holds(("evening", 1, a, b, least + 1, MARK)))
            self.assertFalse(self.holds(("evening", 0, a, b, least - 1, MARK)))
            self.assertFalse(self.holds(("morning", 0, a, b, least, MARK)))
        for a, b in [(0, 2), (0, 3), (2, 0), (3, 0), (2, 1), (3, 2), (1, 1), (0, 0)]:
            self.assertFalse(self.holds(("evening", 0, a, b, 10 ** 20, MARK)))
        # A mark on a cell with a lower number than 0, or a higher one, leaves both ways open.
        self.river = River([day.with_marks(Table(3, {(0, 1): -3, (1, 2): 4})) for day in self.river.days[:2]]
                           + [self.river.days[2]])
        self.assertTrue(self.holds(("evening", 0, 0, 1, -3, MARK), ("evening", 0, 1, 2, 0, MARK)))
        self.assertFalse(self.holds(("evening", 0, 0, 1, -4, MARK)))
        self.assertFalse(self.holds(("evening", 0, 1, 2, -1, MARK)))

    def test_sums(self):
        one, two = ("evening", 0, 3, 1, 6, MARK), ("evening", 0, 1, 0, 7, MARK)
        self.assertTrue(self.holds(one, two, ("evening", 0, 3, 0, 13, ("sum", 7, 8))))
        self.assertTrue(self.holds(one, two, ("evening", 0, 3, 0, 14, ("sum", 7, 8))))
        wrong = [("evening", 0, 3, 0, 12, ("sum", 7, 8)), ("evening", 0, 3, 0, 13, ("sum", 8, 7)),
                 ("morning", 0, 3, 0, 13, ("sum", 7, 8)), ("evening", 1, 3, 0, 13, ("sum", 7, 8)),
                 ("evening", 0, 2, 0, 13, ("sum", 7, 8)), ("evening", 0, 3, 1, 13, ("sum", 7, 8)),
                 ("evening", 0, 3, 0, 13, ("sum", 7, 7)), ("evening", 0, 3, 0, 13, ("sum", 7, 9)),
                 ("evening", 0, 3, 0, 13, ("sum", 7, 10)), ("evening", 0, 3, 0, 13, ("sum", 7, True))]
        for reason in wrong:
            self.assertFalse(self.holds(one, two, reason), reason)
        self.assertFalse(self.holds(one, ("evening", 0, 2, 3, 0, MARK), ("evening", 0, 3, 3, 6, ("sum", 7, 8))))
        self.assertFalse(self.holds(("evening", 1, 3, 1, 6, MARK), two, ("evening", 0, 3, 0, 13, ("sum", 7, 8))))
        self.assertFalse(self.holds(one, ("evening", 1, 1, 0, 7, MARK), ("evening", 0, 3, 0, 13, ("sum", 7, 8))))
        # Behind all water broken, everything is: a sum over the same point.
        self.assertTrue(self.holds(one, ("evening", 0, 1, 3, -2, MARK), ("evening", 0, 3, 3, 4, ("sum", 7, 8)),
                                   ("evening", 0, 3, 1, 10, ("sum", 9, 7)), ("evening", 0, 3, 3, 8, ("sum", 9, 9))))

    def test_next(self):
        ahead = [("evening", 1, 1, 0, 7, MARK), ("morning", 1, 1, 0, 7 + 4 - 3 + 2, ("rain", 7))]
        self.assertTrue(self.holds(*ahead, ("evening", 0, 1, 0, 10, ("next", 8))))
        self.assertTrue(self.holds(*ahead, ("evening", 0, 1, 0, 11, ("next", 8))))
        for reason in [("evening", 0, 1, 0, 9, ("next", 8)), ("morning", 0, 1, 0, 10, ("next", 8)),
                       ("evening", 1, 1, 0, 10, ("next", 8)), ("evening", 0, 0, 1, 10, ("next", 8)),
                       ("evening", 0, 1, 1, 10, ("next", 8)), ("evening", 0, 1, 0, 10, ("next", 7)),
                       ("evening", 2, 1, 0, 10, ("next", 8)), ("evening", 0, 2, 0, 10, ("next", 8))]:
            self.assertFalse(self.holds(*ahead, reason), reason)

    def test_rain(self):
        # Points of the evening 0 1 2 3 come from 0 1 1 3; takes above are 0 2 2 7.
        for c, d, number, a, b, least in [(1, 0, 7, 1, 0, 7 + 4 - 3 + 2), (0, 1, 0, 0, 1, 0 - 1 + 1 - 2),
                                          (1, 2, 0, 1, 1, 4), (1, 3, -2, 1, 3, -2 + 4 - 0 + 0 - 5),
                                          (2, 3, 0, 1, 3, 0 - 0 + 0 - 5)]:
            ahead = ("evening", 0, c, d, number, MARK)
            self.assertTrue(self.holds(ahead, ("morning", 0, a, b, least, ("rain", 7))), (c, d))
            self.assertTrue(self.holds(ahead, ("morning", 0, a, b, least + 9, ("rain", 7))))
            for reason in [("morning", 0, a, b, least - 1, ("rain", 7)), ("evening", 0, a, b, least, ("rain", 7)),
                           ("morning", 1, a, b, least, ("rain", 7)), ("morning", 0, 2, b, 99, ("rain", 7)),
                           ("morning", 0, a, 2, 99, ("rain", 7)), ("morning", 0, b, a, 99, ("rain", 7)) if a != b
                           else ("morning", 0, a, 0, 99, ("rain", 7))]:
                self.assertFalse(self.holds(ahead, reason), (c, d, reason))

    def test_rain_where_as_much_as_one_likes_is_let_down(self):
        # Nothing below the last place's outlet binds the morning from above.
        ahead = ("evening", 0, 3, 1, 6, MARK)
        self.assertFalse(self.holds(ahead, ("morning", 0, 3, 1, 10 ** 20, ("rain", 7))))

    def test_rain_over_one_point(self):
        one = ("evening", 0, 3, 3, -1, ("sum", 7, 8))
        ahead = [("evening", 0, 3, 1, 6, MARK), ("evening", 0, 1, 3, -2, MARK)]
        self.assertFalse(self.holds(*ahead, one))
        loop = ("evening", 0, 3, 3, 4, ("sum", 7, 8))
        self.assertTrue(self.holds(*ahead, loop, ("morning", 0, 3, 3, 4, ("rain", 9))))
        self.assertTrue(self.holds(*ahead, loop, ("morning", 0, 3, 3, 5, ("rain", 9))))
        self.assertFalse(self.holds(*ahead, loop, ("morning", 0, 3, 3, 3, ("rain", 9))))
        self.assertFalse(self.holds(*ahead, loop, ("morning", 0, 1, 1, 4, ("rain", 9))))


class PlayTest(unittest.TestCase):
    def test_row_by(self):
        river = plain_river()
        self.assertEqual(row_by(river, PLAIN, 1), (3,))
        self.assertEqual(row_by(river=river, reasons=tuple(PLAIN), at=3), (3,))
        self.assertEqual(row_by(river, [PLAIN[0], ("morning", 1, 0, 1, 0, ("rain", 0))], 1), (0,))
        day = Day([2, 0], [(0, 1), (0, 1)], rain_between([0, 1], [3, 4]))
        for a, b, row in [(3, 0, (3, None)), (0, 1, (0, None)), (4, 3, (None, 4)), (3, 4, (None, 1)), (4, 0, (3, 4))]:
            found = row_by(River([day]), [("evening", 9, 0, 0, 0, MARK), ("evening", 9, a, b, 0, ("rain", 0))], 1)
            self.assertTrue(day.rain.fits(found))
            for got, want in zip(found, row):
                self.assertIn(want, (None, got))

    def test_row_by_looks_at_the_day_of_the_reason(self):
        river = River([plain_river().day_on(0), plain_river().day_on(0).with_rain(rain_between([1], [2]))])
        for day, most in [(0, 3), (1, 2), (10 ** 7, 3), (7, 2)]:
            self.assertEqual(row_by(river, [("evening", day, 1, 0, 5, MARK), ("morning", day, 1, 0, 4, ("rain", 0))], 1),
                             (most,))

    def test_next_by(self):
        reasons = [("evening", 0, 1, 0, 5, MARK), ("evening", 0, 2, 1, 3, MARK), ("evening", 0, 2, 0, 8, ("sum", 1, 0)),
                   ("morning", 0, 2, 0, 9, ("rain", 2)), ("evening", 4, 2, 0, 9, ("next", 3))]
        self.assertIsNone(next_by(reasons, 0, (9, 9)))
        self.assertEqual(next_by(reasons, 2, (5, 4)), 1)
        self.assertEqual(next_by(reasons, 2, (6, 3)), 0)
        self.assertEqual(next_by(reasons, 2, (0, 0, 0, 0)), 0)
        self.assertEqual(next_by(reasons=tuple(reasons), at=3, water=(1,)), 2)
        self.assertEqual(next_by(reasons, 4, (1,) * 12), 3)

    def test_no_rain(self):
        reasons = [("evening", 0, 1, 0, 5, MARK), ("evening", 0, 1, 0, 8, ("sum", 0, 0)),
                   ("evening", 0, 1, 0, 9, ("next", 0))]
        for at in range(3):
            with self.assertRaises(NoRain):
                row_by(plain_river(), reasons, at)

    def test_bad_reasons(self):
        mark = ("evening", 0, 1, 0, 5, MARK)
        wrong = [None, 0, "", {}, [None], [list(mark)], [mark[:5]], [("noon", *mark[1:])], [("evening", -1, *mark[2:])],
                 [("evening", True, *mark[2:])], [("evening", 0, 13, 0, 5, MARK)], [("evening", 0, 1, -1, 5, MARK)],
                 [("evening", 0, True, 0, 5, MARK)], [("evening", 0, 1, 0, True, MARK)], [(*mark[:5], ["mark"])],
                 [(*mark[:5], ("rain", 0))], [mark, (*mark[:5], ("rain", 1))], [mark, (*mark[:5], ("sum", 0, 1))],
                 [mark, (*mark[:5], ("next", -1))], [mark, (*mark[:5], ("next", False))],
                 [(*mark[:5], ("next", 1)), mark], [mark, (*mark[:5], ("sum", 0))], [mark, (*mark[:5], ("hail", 0))]]
        for reasons in wrong:
            with self.assertRaises(BadReasons):
                next_by(reasons, None, None)
            with self.assertRaises(BadReasons):
                row_by(plain_river(), reasons, None)
        with self.assertRaises(BadRiver):
            row_by(None, None, None)
        # Points are those of the river's cells for row_by, and from 0 to 12 for next_by.
        wide = [("evening", 0, 12, 2, 5, MARK)]
        with self.assertRaises(BadReasons):
            row_by(plain_river(), wide, 0)
        self.assertIsNone(next_by(wide, 0, (1,)))

    def test_bad_numbers(self):
        for at in [-1, 4, True, None, "0", (0,), 10 ** 12]:
            with self.assertRaises(BadNumber):
                row_by(plain_river(), PLAIN, at)
            with self.assertRaises(BadNumber):
                next_by(PLAIN, at, None)
        with self.assertRaises(BadNumber):
            next_by([], 0, (1,))
        with self.assertRaises(BadNumber):
            row_by(plain_river(), (), 0)

    def test_bad_waters(self):
        reasons = [("evening", 0, 3, 0, 5, MARK), ("evening", 0, 1, 2, 5, MARK), ("evening", 0, 3, 2, 8, ("sum", 0, 1)),
                   ("evening", 0, 3, 2, 8, ("sum", 1, 0)), ("evening", 0, 1, 3, 8, ("sum", 1, 0))]
        for at in range(5):
            for water in [None, (), [1, 2, 3], (True, 1, 1), (1,) * 13, 3]:
                with self.assertRaises(BadWater):
                    next_by(reasons, at, water)
        for at, water in [(2, (1, 1)), (2, (9,)), (3, (1,)), (4, (1,))]:
            with self.assertRaises(BadWater):
                next_by(reasons, at, water)
        # Only the first reason of the sum is looked at.
        self.assertEqual(next_by(reasons, 3, (1, 1)), 0)
        self.assertEqual(next_by(reasons, 4, (1, -9)), 1)
        self.assertIsNone(next_by(reasons, 0, (1,)))
