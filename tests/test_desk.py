"""A desk: point 200."""

import random
import unittest

from blindweirs import errors
from blindweirs.days import Day, River, rain_between
from blindweirs.desk import Desk
from blindweirs.errors import BadNumber, BadText, BadWater, RiverError
from blindweirs.live import Led
from blindweirs.power import safe_day
from blindweirs.rights import Rights
from blindweirs.tables import Table
from blindweirs.texts import reasons_text, river_text
from brute import all_releases, any_values, rows_of, some_river

PLAIN = "lags 0\nday\noutlets 0 2\ntakes 0\nrain 0 1 0\nrain 1 0 3\nmark 1 0 5\n"
QUESTIONS = ["day", "water", "kept", "may", "sure", "why"]


def wide_text(lags):
    places = len(lags)
    return river_text(River([Day(lags, [(0, 1)] * places, rain_between([0] * places, [1] * places))]))


def all_told(desk):
    return [desk.say(question) for question in QUESTIONS]


class BeginningTest(unittest.TestCase):
    def test_errors_in_their_order(self):
        for thing in any_values() + ["", "lags 0\n", PLAIN[:-1], PLAIN + "x\n"]:
            with self.assertRaises(BadText):
                Desk(thing, None, None)
        for text, line in [(None, 0), ("", 0), ("lags 0\n", 1), (PLAIN[:-1], 6), (PLAIN + "x\n", 7)]:
            with self.assertRaises(BadText) as caught:
                Desk(text, None, None)
            self.assertEqual(caught.exception.line, line)
        for last in [None, -1, True, "3", 40]:
            with self.assertRaises(BadNumber):
                Desk(PLAIN, last, None)
        for water in [None, (), [0], (0, 0), (True,), "0"]:
            with self.assertRaises(BadWater):
                Desk(PLAIN, 3, water)
        self.assertEqual(Desk(text=PLAIN, last=39, water=(-4,)).say(line="water"), "-4")

    def test_equal_to_no_value_of_another_kind(self):
        desk = Desk(PLAIN, 0, (0,))
        for thing in any_values():
            self.assertFalse(desk == thing)
        with self.assertRaises(TypeError):
            iter(desk)


class SayingTest(unittest.TestCase):
    def talk(self, desk, *lines):
        for line, answer in lines:
            self.assertEqual(desk.say(line), answer, line)

    def test_a_day(self):
        self.talk(Desk(PLAIN, 1, (3,)), ("day", "0"), ("water", "3"), ("kept", "yes"), ("why", "none"), ("sure", "-"),
                  ("may", "error NotNow"), ("best 1", "error NotNow"), ("let 1", "error NotNow"), ("rain 4", "error BadRow"),
                  ("rain 3", "ok"), ("rain 3", "error NotNow"), ("may", "2 / 2"), ("let 3", "error BadReleases"),
                  ("let 0", "error NotNow"), ("best 5", "2"), ("let 2", "ok"), ("day", "1"), ("water", "4"), ("undo", "ok"), ("day", "0"),
                  ("undo", "ok"), ("undo", "error NothingDone"), ("rain 0", "ok"), ("may", "0 / 2"), ("best 1", "2"), ("best -1", "0"),
                  ("best 0", "0"), ("best 1 1", "error BadPrices"), ("let 1", "ok"), ("rain 2", "ok"), ("let 2", "ok"), ("day", "2"),
                  ("water", "2"), ("kept", "yes"), ("why", "none"), ("may", "error NotNow"), ("sure", "error NotNow"),
                  ("best 1", "error NotNow"), ("best 1 1", "error NotNow"), ("rain 1", "error NotNow"), ("let 9", "error NotNow"),
                  ("drop x", "error NotNow"), ("file x 0 0 1", "error NotNow"), ("undo", "ok"), ("water", "2"),
                  ("may", "0 / 2"))

    def test_rights(self):
        self.talk(Desk(PLAIN, 2, (2,)), ("file mill 0 1 2", "ok"), ("file farm 0 0 1", "ok"), ("kept", "no"), ("sure", "mill"),
                  ("drop farm", "ok"), ("kept", "yes"), ("drop farm", "error NotNow"), ("drop town", "error BadName"), ("drop -", "error BadName"),
                  ("drop 7", "error BadName"), ("file farm 0 0 1", "error BadRight"), ("file a 1 0 1", "error BadRight"),
                  ("file A 0 0 1", "error BadRight"), ("file 7 0 0 1", "error BadRight"), ("file - 0 0 1", "error BadRight"),
                  ("file a=b 0 0 1", "error BadRight"), ("file abcdefg 0 0 1", "error BadRight"), ("file a 0 -1 1", "error BadRight"),
                  ("file a 0 0 0", "error BadRight"), ("file a 0 9999999999999 9999999999999", "ok"), ("sure", "mill a"), ("undo", "ok"),
                  *[(f"file {name} 0 9 1", "ok") for name in "abcdef"], ("file g 0 9 1", "error TooMany"), ("file a 0 9 1", "error BadRight"),
                  ("undo", "ok"), ("sure", "mill a b c d e"))
        self.talk(Desk(PLAIN, 1, (9,)), ("file a 0 0 1", "ok"), ("sure", "none"), ("kept", "no"), ("rain 0", "ok"), ("may", "none"), ("best 1", "none"))

    def test_two_places(self):
        text = river_text(River([Day([1, 0], [(0, 3), (1, None)], rain_between([0, 0], [2, 2]), None, Table(3, {(1, 0): 4}))]))
        self.talk(Desk(text, 3, (4, 0, 9)), ("water", "4 0 9"), ("rain 2 1", "ok"), ("may", "2 1 / 3 10"), ("best 1 1", "3 10"),
                  ("best -1 1", "2 10"), ("best 0 -1", "2 1"), ("let 2 0", "error BadReleases"), ("let 2 7", "ok"), ("water", "4 2 3"), ("rain 1", "error BadRow"),
                  ("rain 1 1 1", "error BadRow"), ("let 1", "error BadReleases"), ("best 1", "error NotNow"), ("rain 0 0", "ok"),
                  ("best 1", "error BadPrices"), ("best 1 1 1", "error BadPrices"), ("let 1 1", "ok"), ("water", "3 1 4"))

    def test_why(self):
        desk = Desk(PLAIN, 1, (4,))
        self.assertEqual(desk.say("why"), "evening 1 1 0 5 mark; morning 1 1 0 4 rain 0; evening 0 1 0 4 next 1; morning 0 1 0 3 rain 2")
        led = Led(River([Day([0], [(0, 2)], rain_between([0], [3]), None, Table(1, {(1, 0): 5}))]), Rights(), 1, (4,))
        self.assertEqual(desk.say("why") + "\n", reasons_text(led.why()).replace("\n", "; ")[:-2] + "\n")

    def test_not_understood(self):
        desk = Desk(PLAIN, 3, (3,))
        lines = ["", " ", "day ", " day", "day 0", "days", "Day", "DAY", "water 0", "kept yes", "may 1", "sure a", "why 0", "undo 1", "best",
                 "rain", "let", "drop", "file", "rain ", "drop ", "rain  1", "rain 1 ", " rain 1", "rain x", "rain 01", "rain +1", "rain -0", "rain 1.0",
                 "rain 10000000000000", "rain -10000000000000", "let 01", "let +1", "let -0", "let 10000000000000", "best 01", "best -", "best x",
                 "best 10000000000000", "drop a b", "drop  a", "drop a ", "file a", "file a 0", "file a 0 0", "file a 0 0 1 1", "file a x 0 1",
                 "file a 0 x 1", "file a 0 0 x", "file  0 0 1", "file a  0 1", "file a 0 0 01", "file a 0 0 10000000000000", "file a 0 0 +1",
                 "Rain 1", "LET 1", "fill a 0 0 1", "drop a 0 0 1", "day a 0 0 1", "a 0 0 1", "1 2", "1", "rain 1\n", "day\n", "\n", "\nday", "drop a\nb", "drop \n", "day\nday", "rain\t1", "not understood", "ok", "copy", "rain 1,2",
                 "rain 1 x", "rain \u0661", "rain \u00b2"]
        before = all_told(desk)
        for line in lines + [thing for thing in any_values()] + [b"day", ["day"], ("day",)]:
            self.assertEqual(desk.say(line), "not understood", line)
        self.assertEqual(all_told(desk), before)
        self.assertEqual(desk.say("undo"), "error NothingDone")

    def test_thirteen_figures(self):
        desk = Desk(PLAIN, 0, (3,))
        self.talk(desk, ("rain 9999999999999", "error BadRow"), ("rain -9999999999999", "error BadRow"), ("let 9999999999999", "error BadReleases"),
                  ("rain 1", "ok"), ("best 9999999999999", "2"), ("best -9999999999999", "0"), ("best 1 9999999999999", "error BadPrices"),
                  ("drop 99999999999999999", "error BadName"), ("file 99999999999999999 0 0 1", "error BadRight"),
                  ("rain 1 2 3 4 5 6 7", "error BadRow"), ("let 1 2 3 4 5 6 7", "error BadReleases"))

    def test_best_and_its_errors(self):
        desk = Desk(PLAIN.replace("rain 1 0 3", "rain 1 0 1"), 12, (1,))
        self.talk(desk, ("best 1", "error NotNow"), ("rain 0", "ok"), ("best 1", "error TooMany"), ("best 1 1", "error BadPrices"), ("let 0", "ok"),
                  ("best 1 1", "error NotNow"), ("rain 0", "ok"), ("best 1", "1"))
        desk = Desk(wide_text([2, 1, 1, 0, 0]), 0, (0,) * 9)
        self.talk(desk, ("best 1 1 1 1 1", "error NotNow"), ("rain 0 0 0 0 0", "ok"), ("best 1", "error BadPrices"), ("best 1 1 1 1 1", "error TooMany"))
        self.talk(Desk(wide_text([2, 1, 0, 0, 0]), 0, (0,) * 8), ("rain 1 0 0 0 0", "ok"), ("best 1 1 1 1 1", "1 0 0 0 0"))

    def test_a_refused_line_changes_nothing(self):
        desk = Desk(PLAIN, 1, (3,))
        refused = ["rain 4", "let 0", "let 3", "drop town", "file A 0 0 1", "file a 4 0 1", "best 1 1"]
        for line in ["rain 3", "file mill 0 1 1", "let 2"]:
            self.assertEqual(desk.say(line), "ok")
            before = all_told(desk)
            for other in refused + (["rain 1"] if line != "let 2" else []) + (["drop a"] if line != "rain 3" else []):
                self.assertRegex(desk.say(other), "^error ")
                self.assertEqual(all_told(desk), before)

    def test_against_a_river_that_is_led(self):
        choice = random.Random(200)
        seen = {}
        for _ in range(60):
            river = some_river(choice)
            size = len(river.lags) + sum(river.lags)
            water = tuple(choice.randint(0, 2) for _ in range(size))
            desk, led = Desk(river_text(river), 2, water), Led(river, Rights(), 2, water)
            for _ in range(20):
                line, work = self.some_line(choice, river, led)
                try:
                    expected = work()
                except RiverError as error:
                    expected = f"error {type(error).__name__}"
                seen[expected.split(" ")[-1] if expected.startswith("error") else line.split(" ")[0]] = True
                self.assertEqual(desk.say(line), expected, line)
        for word in ["rain", "let", "file", "drop", "undo", "NotNow", "BadRow", "BadReleases", "BadRight", "BadName", "NothingDone",
                     "BadPrices", *QUESTIONS]:
            self.assertIn(word, seen)
        self.assertLessEqual({word for word in seen if word[0].isupper()}, {name for name in vars(errors)})

    def some_line(self, choice, river, led):
        """A line, and what it is to do with a river that is led beside the desk."""
        def done(work, *told):
            work(*told)
            return "ok"

        def joined(numbers):
            return " ".join(map(str, numbers))

        def best(prices):
            led.may()
            found = safe_day(led.stretch(), 0, 2 - led.today, led.water, led.row, prices)
            return "none" if found is None else joined(found)

        def may():
            found = led.may()
            return "none" if found is None else " / ".join(map(joined, found))

        def sure():
            found = led.sure()
            return "none" if found is None else " ".join(found) or "-"

        def why():
            found = led.why()
            return "none" if found is None else "; ".join(reasons_text(found).splitlines())

        day = river.day_on(0)
        row = choice.choice(rows_of(day) + [(9,)])
        releases = choice.choice(all_releases(day, led.water, rows_of(day)[0]) + [(0,)])
        name = choice.choice("abB")
        prices = [choice.randint(-3, 3) for _ in range(len(river.lags) if choice.random() < 0.8 else 6)]
        right = (name, choice.randrange(2), choice.randrange(3), 1)
        return choice.choice([
            ("rain " + joined(row), lambda: done(led.come, row)), ("let " + joined(releases), lambda: done(led.let, releases)),
            ("rain " + joined(row), lambda: done(led.come, row)), ("let " + joined(releases), lambda: done(led.let, releases)),
            ("file " + joined(right), lambda: done(led.file, right)), (f"drop {name}", lambda: done(led.drop, name)),
            ("undo", lambda: done(led.undo)), ("day", lambda: str(led.today)), ("water", lambda: joined(led.water)),
            ("kept", lambda: "yes" if led.is_kept() else "no"), ("may", may), ("sure", sure), ("why", why),
            ("best " + joined(prices), lambda: best(prices))])


if __name__ == "__main__":
    unittest.main()
