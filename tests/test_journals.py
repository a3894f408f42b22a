"""Journals: point 180."""

import random
import unittest

from blindweirs.days import River
from blindweirs.errors import BadJournal, BadLed, RiverError
from blindweirs.journals import first_wrong, journal_of, replayed
from blindweirs.live import Led
from blindweirs.rights import Rights
from brute import any_values, some_river
from test_live import FARM, MILL, TOWN, do, led_river, plain_day, plain_river, some_deed, state_of


def told(led):
    return (led.today, led.water, led.is_kept())


def some_journal():
    """A river that was led to its end by deeds of each kind, and its journal."""
    led = led_river(2, 1)
    shut = plain_day().with_outlets([(0, 1)])
    for deed in [("drop", "farm"), ("rain", (1,)), ("change", shut, 1), ("let", (1,)), ("file", TOWN), ("rain", (2,)), ("let", (0,))]:
        do(led, deed)
    return led, journal_of(led)


class JournalTest(unittest.TestCase):
    def test_of_a_log(self):
        led, journal = some_journal()
        shut = plain_day().with_outlets([(0, 1)])
        self.assertEqual(journal, [
            (("drop", "farm"), (0, (2,), True)), (("rain", (1,)), (0, (2,), True)), (("change", shut, 1), (0, (2,), True)),
            (("let", (1,)), (1, (2,), True)), (("file", TOWN), (1, (2,), True)), (("rain", (2,)), (1, (2,), True)),
            (("let", (0,)), (2, (2,), True))])
        self.assertEqual([journal_of(led=led_river())], [[]])
        before = state_of(led)
        self.assertIsNot(journal_of(led), journal_of(led))
        journal_of(led).clear()
        self.assertEqual(journal_of(led), journal)
        self.assertEqual(state_of(led), before)

    def test_what_is_no_longer_kept(self):
        led = led_river(3, 1)
        for deed in [("rain", (0,)), ("let", (2,)), ("rain", (2,))]:
            do(led, deed)
        self.assertEqual([item[1] for item in journal_of(led)], [(0, (3,), True), (1, (0,), False), (1, (0,), True)])

    def test_right_journals(self):
        choice = random.Random(180)
        for _ in range(30):
            river = some_river(choice)
            size = len(river.day_on(0).lags) + sum(river.day_on(0).lags)
            led = Led(river, Rights([("a", 0, 1, 1)]), 2, tuple(choice.randint(0, 2) for _ in range(size)))
            begun = led.copy()
            journal = []
            for _ in range(12):
                deed = ("undo",) if choice.random() < 0.25 else some_deed(choice, led)
                try:
                    if deed == ("undo",):
                        led.undo()
                    else:
                        do(led, deed)
                except RiverError:
                    self.assertEqual(first_wrong(begun, journal + [(deed, told(led))]), len(journal))
                    continue
                journal.append((deed, told(led)))
            for one in (led, begun):
                self.assertIsNone(first_wrong(one, journal))
                self.assertIsNone(first_wrong(one, tuple(journal)))
                self.assertIsNone(first_wrong(one, journal_of(led)))
                self.assertEqual(replayed(one, journal), led)
                self.assertEqual(replayed(one, journal_of(led)), led)
            self.assertEqual(begun.log, [])
            for at, (deed, (today, water, kept)) in choice.sample(list(enumerate(journal)), min(4, len(journal))):
                for wrong in [(today + 1, water, kept), (today, (water[0] + 1,) + water[1:], kept), (today, water, not kept)]:
                    other = journal[:at] + [(deed, wrong)] + journal[at + 1:]
                    self.assertEqual(first_wrong(begun, other), at)
                    with self.assertRaises(BadJournal) as caught:
                        replayed(begun, other)
                    self.assertEqual(caught.exception.at, at)

    def test_items_that_are_wrong(self):
        led, journal = some_journal()
        good = (0, (2,), True)
        row = ("rain", (1,))
        deeds = [("rain",), ("rain", [1]), ("rain", (True,)), ("rain", (4,)), ("rain", 1), ("rain", (1,), 0), ["rain", (1,)], ("Rain", (1,)),
                 ("let", (1,)), ("let", [1]), ("let",), ("drop", "town"), ("drop", None), ("drop",), ("drop", "mill", 0), ("drop", ["mill"]),
                 ("file", MILL), ("file", list(TOWN)), ("file", None), ("file", ("town", 1, 0, 1)), ("file",), ("change", plain_day(), 3),
                 ("change", plain_day(), True), ("change", plain_day()), ("change", None, 0), ("change", plain_day(), -1),
                 ("undo",), ("undo", 0), "undo", ["undo"], (), ([],), ({},), (None,), ("",), ("come", (1,)), ("copy",), None, 0, "rain"]
        items = [(deed, good) for deed in deeds]
        items += [(row, thing) for thing in [None, (), 0, [0, (2,), True], (0, [2], True), (0, (2,), 1), (False, (2,), True),
                                             (0, (2,)), (0, (2,), True, True), (0, (True,), True), (0, (2,), None), (None, (2,), True),
                                             (1, (2,), True), (0, (3,), True), (0, (2,), False), (0, (2, 0), True), "abc", {0: 1}]]
        items += [[row, good], (row,), (row, good, good), row, good, ({}, {})]
        one = led_river(2, 1)
        self.assertIsNone(first_wrong(one, [(("drop", "farm"), good), (row, good)]))
        for item in items + any_values():
            self.assertEqual(first_wrong(led=one, journal=[item]), 0, item)
            self.assertEqual(first_wrong(one, (item, None)), 0)
            # Behind items that go well, and ahead of others.
            self.assertEqual(first_wrong(one, [(("drop", "farm"), good), (("undo",), (0, (2,), False)), item, None]), 2, item)
            with self.assertRaises(BadJournal) as caught:
                replayed(one, journal=[(("drop", "farm"), good), item])
            if item != (row, good):
                self.assertEqual(caught.exception.at, 1)
        self.assertEqual(first_wrong(led, journal + journal[:1]), len(journal))

    def test_true_is_not_one(self):
        begun = led_river(1, 2, 1)
        good = (1, (1,), begun.is_kept())
        self.assertIsNone(first_wrong(begun, [(("rain", (1,)), (1, (1,), True))]))
        for told in [(True, (1,), True), (1, (True,), True), (1, (1,), 1), (1, [1], True), [1, (1,), True]]:
            self.assertEqual(first_wrong(begun, [(("rain", (1,)), told)]), 0)
        self.assertEqual(first_wrong(begun, [(("rain", (True,)), good)]), 0)

    def test_releases_are_a_tuple(self):
        begun = led_river(2, 1)
        rain = (("rain", (1,)), (0, (2,), True))
        self.assertIsNone(first_wrong(begun, [rain, (("let", (0,)), (1, (2,), True))]))
        self.assertEqual(first_wrong(begun, [rain, (("let", [0]), (1, (2,), True))]), 1)
        self.assertEqual(first_wrong(begun, [rain, (("let", (False,)), (1, (2,), True))]), 1)

    def test_what_is_no_list(self):
        led = led_river()
        for thing in any_values() + ["", 3, {}]:
            if not isinstance(thing, (list, tuple)):
                self.assertEqual(first_wrong(led, thing), 0)
                with self.assertRaises(BadJournal) as caught:
                    replayed(led, thing)
                self.assertEqual(caught.exception.at, 0)
        self.assertIsNone(first_wrong(led, []))
        self.assertIsNone(first_wrong(led, ()))

    def test_the_river_that_is_passed_stays(self):
        led, journal = some_journal()
        before = state_of(led)
        other = replayed(led, journal[:2])
        self.assertEqual(other.log, [deed for deed, _ in journal[:2]])
        self.assertEqual(replayed(led, []).log, [])
        other.undo()
        self.assertEqual(first_wrong(led, journal), None)
        self.assertEqual(first_wrong(led, [journal[3], None]), 0)
        self.assertEqual(state_of(led), before)

    def test_taken_back_and_done_again(self):
        led = led_river(2, 1)
        good = (0, (2,), False)
        journal = [(("rain", (0,)), good), (("undo",), good), (("rain", (3,)), (0, (2,), True)), (("let", (2,)), (1, (2,), True)),
                   (("undo",), (0, (2,), True)), (("let", (0,)), (1, (4,), True))]
        self.assertIsNone(first_wrong(led, journal))
        self.assertEqual(replayed(led, journal).log, [("rain", (3,)), ("let", (0,))])
        self.assertEqual(first_wrong(led, [*journal, *[(("undo",), good)] * 3]), 6)
        self.assertEqual(first_wrong(led, [(("undo",), good)]), 0)
        self.assertEqual(first_wrong(led, [*journal[:2], (("undo",), good)]), 2)

    def test_errors(self):
        for thing in any_values() + [plain_river(), River, FARM]:
            if not isinstance(thing, Led):
                for ask, more in [(journal_of, []), (first_wrong, [None]), (replayed, [None])]:
                    with self.assertRaises(BadLed):
                        ask(thing, *more)


if __name__ == "__main__":
    unittest.main()
