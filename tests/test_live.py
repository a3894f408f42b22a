"""A river that is led: points 170 and 171."""

import random
import unittest

from blindweirs.days import Day, River, rain_between
from blindweirs.errors import (BadDay, BadName, BadNumber, BadReleases, BadRight, BadRights, BadRiver, BadRow, BadWater,
                               NothingDone, NotNow, OtherLags, RiverError, TooMany)
from blindweirs.kept import can_keep, releases_for
from blindweirs.live import Led
from blindweirs.reasons import is_book
from blindweirs.rights import Rights, river_of
from blindweirs.tables import Table
from brute import all_releases, any_values, rows_of, some_river

MILL, FARM, TOWN = ("mill", 0, 1, 2), ("farm", 0, 0, 1), ("town", 0, 2, 1)


def plain_day():
    return Day([0], [(0, 2)], rain_between([0], [3]), None, Table(1, {(1, 0): 5}))


def plain_river():
    return River([plain_day()])


def led_river(water=2, last=2, first=0):
    return Led(plain_river(), Rights([MILL, FARM]), last, (water,), first)


def over():
    """A river that is led to its last evening."""
    led = Led(plain_river(), Rights([FARM]), 0, (2,))
    led.come((1,))
    led.let((2,))
    return led


def state_of(led):
    """All that a river tells, but what it could be asked."""
    return (led.today, led.water, led.row, led.lot, led.rights, led.log, led.is_over)


def do(led, deed):
    """A deed as a log tells it."""
    word, *parts = deed
    {"rain": led.come, "let": led.let, "drop": led.drop, "file": led.file, "change": led.change}[word](*parts)


def some_deed(choice, led):
    """A deed that may be refused."""
    day = led_day(led)
    row = choice.choice(rows_of(day)) if day is not None else (0,)
    kind = choice.choice(["rain", "let", "let", "drop", "file", "change"])
    if kind == "rain":
        return (kind, row)
    if kind == "let":
        return (kind, choice.choice(all_releases(day, led.water, led.row or row)) if day is not None else (0,))
    if kind == "drop":
        return (kind, choice.choice([*led.rights.names, "nobody"]))
    if kind == "file":
        return (kind, (choice.choice("abcdefghi"), choice.randrange(2), choice.randrange(4), choice.randint(1, 2)))
    return (kind, plain_day() if day is None or day.lags == (0,) else day.with_takes([0] * len(day.lags)),
            led.today + choice.randint(0, 2))


def led_day(led):
    if led.is_over:
        return None
    return led.stretch().day_on(0)


class BeginningTest(unittest.TestCase):
    def test_properties(self):
        led = Led(river=plain_river(), rights=Rights([MILL, FARM]), last=4, water=(2,), first=3)
        self.assertEqual(state_of(led), (3, (2,), None, ("mill", "farm"), Rights([MILL, FARM]), [], False))
        self.assertEqual(Led(plain_river(), Rights(), 4, (2,)).today, 0)
        self.assertEqual(Led(plain_river(), Rights(), 10 ** 7, (-2,), 10 ** 7 - 39).today, 10 ** 7 - 39)

    def test_errors_in_their_order(self):
        river, rights = plain_river(), Rights([MILL])
        for thing in [thing for thing in any_values() if not isinstance(thing, River)]:
            with self.assertRaises(BadRiver):
                Led(thing, None, None, None, None)
        for thing in [None, [MILL], (), 0, Rights([("a", 1, 0, 1)]), Rights([MILL, ("b", 4, 9, 9)])]:
            with self.assertRaises(BadRights) as caught:
                Led(river, thing, None, None, None)
            self.assertIsNone(caught.exception.at)
        for last, first in [(None, 0), (True, 0), ("3", 0), (-1, 0), (-1, -1), (3, None), (3, -1), (3, True), (3, False), (3, "0"),
                            (3, 4), (0, 10 ** 7), (40, 0), (41, 1), (10 ** 7, 10 ** 7 - 40)]:
            with self.assertRaises(BadNumber):
                Led(river, rights, last, None, first)
            with self.assertRaises(BadNumber):
                Led(first=first, water=None, last=last, rights=rights, river=river)
        for water in [None, (), [0], (0, 0), 0, (None,), (True,), ("0",)]:
            for first in [0, 3]:
                with self.assertRaises(BadWater):
                    Led(river, rights, 3, water, first)
        self.assertEqual(Led(river, rights, 39, (0,)).today, 0)
        self.assertEqual(Led(river, rights, 41, (0,), first=2).today, 2)


class DeedsTest(unittest.TestCase):
    def refuse(self, error, led, work, *told, **attributes):
        """What is refused changes nothing."""
        before = state_of(led)
        with self.assertRaises(error) as caught:
            work(*told)
        for name, value in attributes.items():
            self.assertEqual(getattr(caught.exception, name), value)
        self.assertEqual(state_of(led), before)

    def test_rain(self):
        led = led_river()
        self.assertIsNone(led.come(row=(3,)))
        self.assertEqual(state_of(led), (0, (2,), (3,), ("mill", "farm"), Rights([MILL, FARM]), [("rain", (3,))], False))
        self.refuse(NotNow, led, led.come, (3,), word="rain")
        for row in [None, (4,), (-1,), [3], (3, 0), (), (True,), 3, ("3",)] + any_values():
            self.refuse(BadRow, led, led.come, row)
            self.refuse(BadRow, led_river(), led_river().come, row)

    def test_releases(self):
        led = led_river()
        self.refuse(NotNow, led, led.let, (1,), word="rain")
        for releases in [None, (3,), (-1,), (1, 1), (), (True,), 1, ("1",), {0: 1}] + any_values():
            self.refuse(BadReleases, led, led.let, releases)
        led.come((2,))
        for releases in [None, (3,), (-1,), [], [True]]:
            self.refuse(BadReleases, led, led.let, releases)
        told = [1]
        self.assertIsNone(led.let(releases=told))
        told[0] = 9
        # The farm took 1 of this day's water; the mill takes tomorrow.
        self.assertEqual(state_of(led), (1, (2,), None, ("mill", "farm"), Rights([MILL, FARM]), [("rain", (2,)), ("let", (1,))], False))

    def test_an_unsound_evening(self):
        led = led_river(5)
        led.come((3,))
        self.refuse(NotNow, led, led.let, (0,), word="unsound")
        self.refuse(NotNow, led, led.let, (1,), word="unsound")
        led.let((2,))
        self.assertEqual(led.water, (5,))
        dry = led_river(0)
        dry.come((0,))
        self.refuse(NotNow, dry, dry.let, (0,), word="unsound")
        dry.drop("farm")
        dry.let((0,))
        self.assertEqual(dry.water, (0,))

    def test_water_on_its_way(self):
        river = River([Day([1, 0], [(0, 3), (0, 3)], rain_between([0, 0], [1, 1]))])
        led = Led(river, Rights([("low", 1, 1, 2)]), 2, (4, 0, 0))
        led.come((0, 1))
        led.let((3, 0))
        self.assertEqual(led.water, (1, 3, 1))
        led.come((1, 0))
        led.let([2, 2])
        self.assertEqual(led.water, (0, 2, 0))
        self.assertEqual(led.log, [("rain", (0, 1)), ("let", (3, 0)), ("rain", (1, 0)), ("let", (2, 2))])

    def test_drop(self):
        led = led_river()
        self.assertIsNone(led.drop(name="mill"))
        self.assertEqual((led.lot, led.rights, led.log), (("farm",), Rights([MILL, FARM]), [("drop", "mill")]))
        self.refuse(NotNow, led, led.drop, "mill", word="drop")
        for name in [None, "town", "", 0, MILL, ("mill",), ["mill"], {}]:
            self.refuse(BadName, led, led.drop, name, name=name)

    def test_file(self):
        led = led_river()
        self.assertIsNone(led.file(right=TOWN))
        self.assertEqual((led.lot, led.rights), (("mill", "farm", "town"), Rights([MILL, FARM, TOWN])))
        led.drop("farm")
        led.file(("a", 0, 9, 4))
        self.assertEqual((led.lot, led.rights), (("mill", "town", "a"), Rights([MILL, FARM, TOWN, ("a", 0, 9, 4)])))
        for right in [None, "town", MILL, ("farm", 0, 7, 7), ("b", 1, 0, 1), ("b", 4, 0, 1), ("b", 0, 0, 0), ["b", 0, 0, 1],
                      ("b", 0, True, 1), ("B", 0, 0, 1)] + any_values():
            self.refuse(BadRight, led, led.file, right)
        for name in "bcde":
            led.file((name, 0, 0, 1))
        for right in [("f", 0, 0, 1)]:
            self.refuse(TooMany, led, led.file, right, most=8)
        self.refuse(BadRight, led, led.file, ("b", 0, 0, 1))
        led.drop("b")
        self.refuse(TooMany, led, led.file, ("f", 0, 0, 1), most=8)

    def test_change(self):
        led = led_river(last=3)
        shut = plain_day().with_outlets([(0, 0)])
        self.assertIsNone(led.change(day=shut, number=1))
        self.assertEqual(led.log, [("change", shut, 1)])
        self.assertEqual(led.stretch().days[1].outlets, ((0, 0),))
        # The same Day of the river comes again on the other days, and stays.
        self.assertEqual([day.outlets for day in led.stretch().days], [((0, 2),), ((0, 0),), ((0, 2),), ((0, 2),)])
        led.come((0,))
        led.let((0,))
        self.refuse(BadReleases, led, led.let, (1,))
        self.refuse(BadNumber, led, led.change, shut, 0)
        for number in [None, -1, 4, True, "2", 10 ** 7]:
            self.refuse(BadNumber, led, led.change, shut, number)
        for day in [Day([0, 0], [(0, 1)] * 2, rain_between([0, 0], [1, 1])), Day([1, 0], [(0, 1)] * 2, rain_between([0, 0], [1, 1]))]:
            self.refuse(OtherLags, led, led.change, day, None)
        for day in [thing for thing in any_values() if not isinstance(thing, Day)]:
            self.refuse(BadDay, led, led.change, day, None, part=None)
        led.change(shut, 3)
        led.change(plain_day(), 3)
        self.assertEqual([day.outlets for day in led.stretch().days], [((0, 0),), ((0, 2),), ((0, 2),)])

    def test_a_row_that_has_come_stays(self):
        for rain in [rain_between([0], [3]), rain_between([0], [1]), rain_between([3], [3])]:
            led = led_river()
            led.come((2,))
            led.change(plain_day().with_rain(rain), 0)
            self.assertEqual((led.row, led.stretch().days[0].rain), ((2,), rain_between((2,), (2,))))
            led.let((2,))
            self.assertEqual(led.water, (1,))
        led = led_river()
        led.change(plain_day().with_rain(rain_between([5], [6])), 0)
        self.refuse(BadRow, led, led.come, (2,))
        led.come((6,))
        led.change(plain_day().with_outlets([(4, 4)]), 0)
        self.refuse(BadReleases, led, led.let, (2,))
        led.let((4,))
        self.assertEqual(led.water, (3,))

    def test_over_is_ahead_of_all_others(self):
        led = over()
        self.assertEqual(state_of(led)[:3], (1, (0,), None))
        self.assertIs(led.is_over, True)
        for work, told in [(led.come, (None,)), (led.come, ((0,),)), (led.let, (None,)), (led.let, ((0,),)), (led.drop, (None,)),
                           (led.drop, ("farm",)), (led.file, (None,)), (led.file, (MILL,)), (led.change, (None, None)),
                           (led.change, (plain_day(), 0)), (led.stretch, ()), (led.may, ()), (led.sure, ())]:
            self.refuse(NotNow, led, work, *told, word="over")
        self.assertIs(led.is_kept(), True)
        self.assertIsNone(led.why())
        led.undo()
        self.assertIs(led.is_over, False)
        self.assertEqual(state_of(led)[:3], (0, (2,), (1,)))

    def test_undo_of_everything(self):
        led = led_river(last=1)
        self.refuse(NothingDone, led, led.undo)
        states = [state_of(led)]
        for work, told in [(led.file, TOWN), (led.come, (1,)), (led.drop, "farm"), (led.let, (1,)), (led.file, ("a", 0, 1, 1)),
                           (led.come, (3,)), (led.drop, "mill"), (led.let, (2,))]:
            work(told)
            states.append(state_of(led))
            if work == led.come:
                led.change(plain_day().with_takes([1]), led.today)
                states.append(state_of(led))
        self.assertIs(led.is_over, True)
        for before in states[-2::-1]:
            self.assertIsNone(led.undo())
            self.assertEqual(state_of(led), before)
        self.refuse(NothingDone, led, led.undo)
        led.come((2,))
        self.assertEqual(led.log, [("rain", (2,))])

    def test_what_is_told_is_new(self):
        led = led_river()
        led.come((1,))
        led.log.clear()
        self.assertEqual(led.log, [("rain", (1,))])
        self.assertIsNot(led.log, led.log)


class AskingTest(unittest.TestCase):
    def test_stretch(self):
        rights = Rights([("b", 1, 4, 1), ("a", 0, 3, 2), ("c", 0, 9, 5)])
        days = [Day([0, 0], [(0, at), (0, None)], rain_between([0, 0], [at, 1]), [at, 0]) for at in range(3)]
        led = Led(River(days), rights, 5, (1, 1), 3)
        self.assertEqual(led.stretch(), river_of(River(days), rights, ("b", "a", "c"), 3, 5))
        led.drop("a")
        self.assertEqual(led.stretch(), river_of(River(days), rights, ("b", "c"), 3, 5))
        led.file(("d", 1, 3, 7))
        self.assertEqual([day.takes for day in led.stretch().days], [(0, 7), (1, 1), (2, 0)])
        led.come((0, 1))
        self.assertEqual([day.rain for day in led.stretch().days],
                         [rain_between([0, 1], [0, 1]), days[1].rain, days[2].rain])
        led.undo()
        led.undo()
        led.come((0, 1))
        led.let((0, 2))
        self.assertEqual((led.today, led.stretch()), (4, river_of(River(days), rights, ("b", "c"), 4, 5)))

    def test_answers_as_its_days_tell(self):
        choice = random.Random(170)
        seen = {}
        for _ in range(250):
            river = some_river(choice)
            size = len(river.day_on(0).lags) + sum(river.day_on(0).lags)
            rights = Rights([(name, choice.randrange(len(river.lags)), choice.randrange(3), 1) for name in "ba"[:choice.randint(0, 2)]])
            last = choice.choice([0, 2, 2])
            led = Led(river, rights, last, tuple(choice.randint(0, 2) for _ in range(size)))
            for _ in range(choice.randint(0, 9)):
                try:
                    do(led, some_deed(choice, led))
                except RiverError:
                    seen["refused"] = True
            if led.is_over:
                seen["over"] = True
                continue
            ahead = last - led.today
            kept = can_keep(led.stretch(), 0, ahead, led.water)
            seen[kept] = True
            self.assertIs(led.is_kept(), kept)
            reasons = led.why()
            self.assertIs(reasons is None, kept)
            self.assertTrue(kept or is_book(led.stretch(), 0, ahead, led.water, reasons))
            self.assertEqual(led.sure(), self.longest_beginning(led, ahead))
            if led.row is not None:
                self.assertEqual(led.may(), releases_for(led.stretch(), 0, ahead, led.water, led.row))
                self.assertIs(led.may() is not None, kept)
            else:
                with self.assertRaises(NotNow) as caught:
                    led.may()
                self.assertEqual(caught.exception.word, "rain")
        self.assertEqual(len(seen), 4)

    def longest_beginning(self, led, ahead):
        other = led.copy()
        sure = {}
        for many in reversed(range(len(led.lot) + 1)):
            sure[many] = other.is_kept()
            if many > 0:
                other.drop(led.lot[many - 1])
        found = [many for many in sure if sure[many]]
        return led.lot[:max(found)] if found else None

    def test_one_river(self):
        led = led_river(2)
        self.assertEqual((led.is_kept(), led.sure()), (False, ("mill",)))
        led.drop("farm")
        self.assertEqual((led.is_kept(), led.why(), led.sure()), (True, None, ("mill",)))
        led.undo()
        led.come((1,))
        self.assertEqual((led.is_kept(), led.may(), led.sure()), (True, ((0,), (0,)), ("mill", "farm")))
        led.undo()
        led.come((0,))
        self.assertEqual((led.is_kept(), led.may(), led.sure()), (False, None, ("mill",)))
        empty = Led(plain_river(), Rights([FARM]), 1, (9,))
        self.assertEqual((empty.is_kept(), empty.sure()), (False, None))
        none = Led(plain_river(), Rights(), 1, (2,))
        self.assertEqual(none.sure(), ())

    def test_a_river_that_is_kept_stays_kept(self):
        choice = random.Random(171)
        ends = 0
        while ends < 60:
            river = some_river(choice)
            size = len(river.day_on(0).lags) + sum(river.day_on(0).lags)
            led = Led(river, Rights(), 3, tuple(choice.randint(0, 2) for _ in range(size)))
            if not led.is_kept():
                continue
            highest = choice.randrange(2)
            while not led.is_over:
                led.come(choice.choice(rows_of(river.day_on(led.today))))
                self.assertIs(led.is_kept(), True)
                led.let(led.may()[highest])
                self.assertIs(led.is_kept(), True)
            ends += 1


class BlocksTest(unittest.TestCase):
    def test_left_as_it_was(self):
        led = led_river()
        with led as same:
            self.assertIs(same, led)
            led.come((1,))
        self.assertEqual(led.log, [("rain", (1,))])

    def test_left_by_an_exception(self):
        led = led_river()
        led.come((1,))
        before = state_of(led)
        for error in [ValueError, KeyError, KeyboardInterrupt, RuntimeError, GeneratorExit]:
            with self.assertRaises(error):
                with led:
                    led.drop("farm")
                    led.let((1,))
                    led.change(plain_day(), 2)
                    led.file(TOWN)
                    raise error("on purpose")
            self.assertEqual(state_of(led), before)
        with self.assertRaises(NotNow):
            with led:
                led.drop("farm")
                led.drop("farm")
        self.assertEqual(state_of(led), before)

    def test_the_exception_is_the_same(self):
        led, error = led_river(), KeyError("on purpose")
        with self.assertRaises(KeyError) as caught:
            with led:
                raise error
        self.assertIs(caught.exception, error)

    def test_undo_of_deeds_from_ahead_of_a_block(self):
        led = led_river()
        led.come((1,))
        led.drop("farm")
        before = state_of(led)
        with self.assertRaises(RuntimeError):
            with led:
                led.let((1,))
                for _ in range(3):
                    led.undo()
                self.assertEqual(led.log, [])
                led.come((3,))
                raise RuntimeError
        self.assertEqual(state_of(led), before)
        with led:
            led.undo()
        self.assertEqual(led.log, [("rain", (1,))])

    def test_nested_blocks(self):
        led = led_river()
        with led:
            led.come((2,))
            with self.assertRaises(ValueError):
                with led:
                    led.let((1,))
                    with led:
                        led.come((0,))
                    raise ValueError
            self.assertEqual(led.log, [("rain", (2,))])
            with led:
                led.drop("mill")
            self.assertEqual(len(led.log), 2)
        self.assertEqual(led.log, [("rain", (2,)), ("drop", "mill")])
        with self.assertRaises(ValueError):
            with led:
                led.undo()
                with led:
                    led.let((0,))
                raise ValueError
        self.assertEqual(led.log, [("rain", (2,)), ("drop", "mill")])
        with self.assertRaises(NothingDone):
            with led:
                with led:
                    for _ in range(3):
                        led.undo()
        self.assertEqual(led.log, [("rain", (2,)), ("drop", "mill")])

    def test_left_by_return(self):
        led = led_river()

        def work():
            with led:
                led.come((1,))
                return 7

        self.assertEqual((work(), led.row), (7, (1,)))

    def test_tried(self):
        led = led_river()

        def work(river):
            river.come((1,))
            return (river, river.today)

        self.assertEqual(led.tried(work=work), (led, 0))
        self.assertEqual(led.log, [("rain", (1,))])

        def fails(river):
            river.let((1,))
            river.undo()
            river.undo()
            raise LookupError("on purpose")

        with self.assertRaises(LookupError):
            led.tried(fails)
        self.assertEqual(led.log, [("rain", (1,))])
        with self.assertRaises(NotNow):
            led.tried(work)
        self.assertEqual(led.log, [("rain", (1,))])
        self.assertIsNone(led.tried(lambda river: river.let((0,))))
        self.assertEqual(led.today, 1)
        self.assertEqual(led.tried(lambda river: river.tried(lambda same: same.today)), 1)

    def test_copy(self):
        led = led_river()
        led.come((1,))
        other = led.copy()
        self.assertEqual((other, state_of(other)), (led, state_of(led)))
        other.let((0,))
        led.drop("mill")
        self.assertEqual((led.log, other.log), ([("rain", (1,)), ("drop", "mill")], [("rain", (1,)), ("let", (0,))]))
        other.undo()
        other.undo()
        with self.assertRaises(NothingDone):
            other.undo()
        kept = {}
        with self.assertRaises(ValueError):
            with led:
                led.undo()
                kept["copy"] = led.copy()
                with self.assertRaises(KeyError):
                    with kept["copy"]:
                        kept["copy"].let((0,))
                        raise KeyError
                kept["copy"].drop("farm")
                raise ValueError
        # The copy is in no block: what leaves the block of the other one does not touch it.
        self.assertEqual(kept["copy"].log, [("rain", (1,)), ("drop", "farm")])
        self.assertEqual(led.log, [("rain", (1,)), ("drop", "mill")])


class EqualityTest(unittest.TestCase):
    def test_by_beginning_and_log(self):
        river, rights = plain_river(), Rights([MILL])
        led = Led(river, rights, 3, (2,))
        self.assertEqual(led, Led(plain_river(), Rights([MILL]), 3, (2,), 0))
        for told in [(River(river.days * 2), rights, 3, (2,)), (river, Rights(), 3, (2,)), (river, rights, 2, (2,)),
                     (river, rights, 3, (1,)), (river, rights, 3, (2,), 1)]:
            self.assertFalse(led == Led(*told))
        for deed in [("rain", (1,)), ("drop", "mill"), ("file", FARM), ("change", plain_day(), 0)]:
            one, other = led.copy(), led.copy()
            do(one, deed)
            self.assertFalse(one == other)
            do(other, deed)
            self.assertEqual(one, other)
            one.undo()
            self.assertEqual(one, led)
        one, other = led.copy(), led.copy()
        one.change(plain_day(), 1)
        other.change(plain_day().with_takes([1]), 1)
        self.assertFalse(one == other)
        # The same water by other deeds is another river.
        one, other = led.copy(), led.copy()
        for river, row, releases in [(one, (1,), (1,)), (other, (2,), (2,))]:
            river.come(row)
            river.let(releases)
        self.assertEqual(one.water, other.water)
        self.assertFalse(one == other)

    def test_no_value_of_another_kind(self):
        led = led_river()
        for thing in any_values() + [led.log, state_of(led), plain_river()]:
            self.assertFalse(led == thing)
            self.assertTrue(led != thing)
        with self.assertRaises(TypeError):
            iter(led)

    def test_whatever_was_done_and_taken_back(self):
        choice = random.Random(172)
        for _ in range(120):
            river = some_river(choice)
            size = len(river.day_on(0).lags) + sum(river.day_on(0).lags)
            told = (river, Rights([("a", 0, 1, 1)]), 3, tuple(choice.randint(0, 2) for _ in range(size)))
            led, model = Led(*told), []
            for _ in range(25):
                if choice.random() < 0.3:
                    before = state_of(led)
                    if model:
                        led.undo()
                        model.pop()
                    else:
                        with self.assertRaises(NothingDone):
                            led.undo()
                        self.assertEqual(state_of(led), before)
                    continue
                deed, before = some_deed(choice, led), state_of(led)
                try:
                    do(led, deed)
                    model.append(deed)
                except RiverError:
                    self.assertEqual(state_of(led), before)
            self.assertEqual(led.log, model)
            again = Led(*told)
            for deed in led.log:
                do(again, deed)
            self.assertEqual((again, state_of(again), again.is_kept()), (led, state_of(led), led.is_kept()))


if __name__ == "__main__":
    unittest.main()
