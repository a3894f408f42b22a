"""Texts: point 190."""

import random
import unittest

from blindweirs.days import Day, River, rain_between
from blindweirs.errors import BadReasons, BadRights, BadRiver, BadTable, BadText
from blindweirs.kept import can_keep
from blindweirs.reasons import book
from blindweirs.rights import Rights
from blindweirs.tables import Table
from blindweirs.texts import (read_reasons, read_rights, read_river, read_table, reasons_text, rights_text, river_text,
                              table_text)
from blindweirs.words import figures_of
from brute import any_values, some_river, some_table, waters

RIVER = """lags 1 0
day
outlets 0 2 1 -
takes 0 3
rain 0 1 0
rain 1 0 5
rain 1 2 -1
rain 2 1 4
mark 1 0 7
day
outlets 2 2 0 10
takes 1 0
rain 0 1 0
rain 0 2 0
rain 1 2 0
rain 2 0 6
mark 1 3 0
mark 3 1 12
"""
TABLE = "table 3\n0 1 0\n0 3 -4\n1 0 12\n2 1 0\n"
RIGHTS = "right mill 0 1 2\nright farm 4 0 1000000000000\n"
REASONS = "evening 3 1 0 5 mark\nmorning -2 12 0 -4 rain 0\nmorning 0 3 3 1 sum 0 17\nevening 7 0 0 0 next 2\n"
READERS = [(read_table, TABLE), (read_river, RIVER), (read_rights, RIGHTS), (read_reasons, REASONS)]
NO_NUMBERS = ["01", "+1", "-0", "", "-", "--1", "1.0", "1_0", "0x1", "1e3", "one", "00", "-01", "+0", "1-", "- 1", "'1'", "None",
              "True", ".", ",1"]


class WritingTest(unittest.TestCase):
    def test_tables(self):
        table = Table(3, {(2, 1): 0, (1, 0): 12, (0, 3): -4, (0, 1): 0})
        self.assertEqual(table_text(table=table), TABLE)
        self.assertEqual(table_text(Table(1)), "table 1\n")
        self.assertEqual(table_text(Table(12, {(10, 2): 1, (2, 10): 3, (9, 10): 0})), "table 12\n2 10 3\n9 10 0\n10 2 1\n")
        for thing in any_values():
            if not isinstance(thing, Table):
                with self.assertRaises(BadTable) as caught:
                    table_text(thing)
                self.assertIsNone(caught.exception.part)

    def test_rivers(self):
        self.assertEqual(river_text(river=two_days()), RIVER)
        plain = River([Day([0], [(0, 2)], rain_between([0], [3]))])
        self.assertEqual(river_text(plain), "lags 0\nday\noutlets 0 2\ntakes 0\nrain 0 1 0\nrain 1 0 3\n")
        for thing in any_values():
            if not isinstance(thing, River):
                with self.assertRaises(BadRiver):
                    river_text(thing)

    def test_rights(self):
        self.assertEqual(rights_text(rights=Rights([("mill", 0, 1, 2), ("farm", 4, 0, 10 ** 12)])), RIGHTS)
        self.assertEqual(rights_text(Rights()), "")
        for thing in any_values():
            if not isinstance(thing, Rights):
                with self.assertRaises(BadRights) as caught:
                    rights_text(thing)
                self.assertIsNone(caught.exception.at)

    def test_reasons(self):
        reasons = [("evening", 3, 1, 0, 5, ("mark",)), ("morning", -2, 12, 0, -4, ("rain", 0)), ("morning", 0, 3, 3, 1, ("sum", 0, 17)),
                   ("evening", 7, 0, 0, 0, ("next", 2))]
        self.assertEqual(reasons_text(reasons=reasons), REASONS)
        self.assertEqual(reasons_text(tuple(reasons)), REASONS)
        self.assertEqual((reasons_text([]), reasons_text(())), ("", ""))
        for why, text in [(("mark",), "mark"), (("sum", 5, 0), "sum 5 0"), (("next", 9), "next 9"), (("rain", 10 ** 9), "rain 1000000000")]:
            for when in ["morning", "evening"]:
                self.assertEqual(reasons_text([(when, -1, 0, 12, 0, why)]), f"{when} -1 0 12 0 {text}\n")

    def test_no_reasons(self):
        good = ("evening", 3, 1, 0, 5, ("mark",))
        wrong = [None, "evening", list(good), good[:5], good + (0,), ("noon",) + good[1:], (["evening"],) + good[1:],
                 ("evening", True, 1, 0, 5, ("mark",)), ("evening", None, 1, 0, 5, ("mark",)), ("evening", 3, True, 0, 5, ("mark",)),
                 ("evening", 3, 13, 0, 5, ("mark",)), ("evening", 3, -1, 0, 5, ("mark",)), ("evening", 3, 1, 13, 5, ("mark",)),
                 ("evening", 3, 1, False, 5, ("mark",)), ("evening", 3, 1, -1, 5, ("mark",)), ("evening", 3, 1, 0, True, ("mark",)),
                 ("evening", 3, 1, 0, "5", ("mark",)), ("evening", 3, 1, 0, 5, "mark"), ("evening", 3, 1, 0, 5, ["mark"]),
                 ("evening", 3, 1, 0, 5, ("mark", 0)), ("evening", 3, 1, 0, 5, ()), ("evening", 3, 1, 0, 5, ("sum", 0)),
                 ("evening", 3, 1, 0, 5, ("sum", 0, -1)), ("evening", 3, 1, 0, 5, ("next", True)), ("evening", 3, 1, 0, 5, ("rain", -1)),
                 ("evening", 3, 1, 0, 5, ("next",)), ("evening", 3, 1, 0, 5, ("rain", 0, 0)), ("evening", 3, 1, 0, 5, (None,)),
                 ("evening", 3, 1, 0, 5, ([],)), ("evening", 3, 1, 0, 5, ("add", 0, 0))]
        for thing in wrong + any_values():
            for told in [[thing], [good, thing], (good, thing, good)]:
                with self.assertRaises(BadReasons):
                    reasons_text(told)
        for thing in [None, "", 0, {}, {0: good}, "ab", Table(1), good]:
            with self.assertRaises(BadReasons):
                reasons_text(thing)


def two_days():
    one = Day([1, 0], [(0, 2), (1, None)], Table(2, {(2, 1): 4, (1, 2): -1, (1, 0): 5, (0, 1): 0}), [0, 3], Table(3, {(1, 0): 7}))
    other = Day([1, 0], [(2, 2), (0, 10)], Table(2, {(2, 0): 6, (0, 1): 0, (1, 2): 0, (0, 2): 0}), [1, 0],
                Table(3, {(3, 1): 12, (1, 3): 0}))
    return River([one, other])


class ReadingTest(unittest.TestCase):
    def wrong(self, read, text, line):
        with self.assertRaises(BadText, msg=text) as caught:
            read(text)
        self.assertEqual(caught.exception.line, line, text)

    def test_as_they_were_written(self):
        self.assertEqual(read_table(text=TABLE), Table(3, {(2, 1): 0, (1, 0): 12, (0, 3): -4, (0, 1): 0}))
        self.assertEqual(read_river(text=RIVER), two_days())
        self.assertEqual(read_rights(text=RIGHTS), Rights([("mill", 0, 1, 2), ("farm", 4, 0, 10 ** 12)]))
        self.assertEqual(read_reasons(text=REASONS)[1], ("morning", -2, 12, 0, -4, ("rain", 0)))
        self.assertEqual([reasons_text(read_reasons(REASONS)), type(read_reasons(REASONS))], [REASONS, list])
        self.assertEqual((read_rights(""), read_reasons("")), (Rights(), []))
        self.assertEqual(read_table("table 7\n"), Table(7))

    def test_again(self):
        choice = random.Random(190)
        books = 0
        for _ in range(80):
            table = some_table(choice, choice.randint(1, 12), -10 ** 12, 10 ** 12, 0.4)
            self.assertEqual(read_table(table_text(table)), table)
            river = some_river(choice)
            self.assertEqual(read_river(river_text(river)), river)
            self.assertEqual(river_text(read_river(river_text(river))), river_text(river))
            rights = Rights([(name, choice.randrange(5), choice.randint(0, 99), choice.randint(1, 9)) for name in choice.sample("abcdefgh", 8)])
            self.assertEqual(read_rights(rights_text(rights)), rights)
            for water in choice.sample(waters(len(river.lags) + sum(river.lags), 0, 3), 3):
                if not can_keep(river, 0, 2, water):
                    reasons = book(river, 0, 2, water)
                    self.assertEqual(read_reasons(reasons_text(reasons)), reasons)
                    books += 1
        self.assertGreater(books, 50)

    def test_forty_days(self):
        river = River(list(two_days().days) * 20)
        self.assertEqual(read_river(river_text(river)), river)
        self.wrong(read_river, river_text(river) + "\n".join(RIVER.splitlines()[1:9]) + "\n", 1 + 20 * 17 + 8)

    def test_numbers_of_many_figures(self):
        great = 10 ** 3999 + 7
        self.assertEqual(len(str(great)), 4000)
        for number in [great, -great]:
            self.assertEqual(read_table(f"table 1\n1 0 {number}\n"), Table(1, {(1, 0): number}))
            self.assertEqual(table_text(Table(1, {(1, 0): number})), f"table 1\n1 0 {number}\n")
            self.assertEqual(read_reasons(f"morning {number} 0 0 1 mark\n"), [("morning", number, 0, 0, 1, ("mark",))])
            self.wrong(read_table, f"table {number}\n", 1)
            self.wrong(read_rights, f"right a {number} 0 1\n", 1)
            self.wrong(read_river, f"lags {number}\n", 1)
        self.assertEqual(read_rights(f"right a 0 {great} {great}\n"), Rights([("a", 0, great, great)]))

    def test_what_is_no_text(self):
        for read, _ in READERS:
            for thing in any_values() + [["table 1\n"], 3, {}]:
                if not isinstance(thing, str):
                    self.wrong(read, thing, 0)

    def test_lines_that_are_not_ended(self):
        for read, text in READERS:
            lines = text.splitlines(keepends=True)
            for at in range(len(lines)):
                self.wrong(read, "".join(lines[:at + 1])[:-1], at)
            self.wrong(read, text + "x", len(lines))
            self.wrong(read, text + " ", len(lines))

    def test_blanks_and_empty_lines(self):
        for read, text in READERS:
            lines = text.splitlines()
            for at, line in enumerate(lines):
                for other in [" " + line, line + " ", line.replace(" ", "  ", 1) if " " in line else line + "  ", ""]:
                    self.wrong(read, "\n".join(lines[:at] + [other] + lines[at + 1:]) + "\n", at)
                for other in ["", " ", "noon 0 0 0 0 mark", "-", "1 2 3 4"]:
                    self.wrong(read, "\n".join(lines[:at] + [other] + lines[at:]) + "\n", at)
            self.wrong(read, text + "\n", len(lines))

    def test_words_too_few_and_too_many(self):
        for read, text in READERS:
            lines = text.splitlines()
            for at, line in enumerate(lines):
                words = line.split(" ")
                others = [words + ["0"], words + ["x"]] + ([words[:-1]] if len(words) > 1 else [])
                if line.startswith("lags"):
                    continue
                for other in others:
                    self.wrong(read, "\n".join(lines[:at] + [" ".join(other)] + lines[at + 1:]) + "\n", at)

    def test_numbers_that_python_does_not_write_so(self):
        for word in NO_NUMBERS:
            self.assertIsNone(figures_of(word), word)
        for read, text in READERS:
            lines = text.splitlines()
            for at, line in enumerate(lines):
                words = line.split(" ")
                for place, word in enumerate(words):
                    if figures_of(word) is not None:
                        for other in NO_NUMBERS:
                            if other == "-" and line.startswith("outlets") and place % 2 == 0:
                                continue
                            told = " ".join(words[:place] + [other] + words[place + 1:])
                            self.wrong(read, "\n".join(lines[:at] + [told] + lines[at + 1:]) + "\n", at)

    def test_capital_letters(self):
        for read, text in READERS:
            lines = text.splitlines()
            for at, line in enumerate(lines):
                if line != line.upper():
                    first, *words = line.split(" ")
                    told = " ".join([first.upper(), *words])
                    if told != line:
                        self.wrong(read, "\n".join(lines[:at] + [told] + lines[at + 1:]) + "\n", at)


class OrderTest(unittest.TestCase):
    wrong = ReadingTest.wrong

    def test_tables(self):
        self.wrong(read_table, "", 0)
        for text, line in [("table\n", 0), ("table 1 2\n", 0), ("tables 1\n", 0), ("1 0 3\n", 0), ("1\n", 0), ("table x\n", 0),
                           ("table 2\ntable 2\n", 1), ("table 2\n1 0\n", 1), ("table 2\n1 0 3 4\n", 1), ("table 2\n1 0 3\n1 0 3\n", 2),
                           ("table 2\n1 0 3\n0 1 3\n", 2), ("table 2\n1 0 3\n0 2 3\nx\n", 2), ("table 99\n1 0 3\n1 0 4\n", 2),
                           ("table 2\n2 1 0\n10 0 0\n2 2 0\n", 3), ("table 2\n-1 5 0\n-2 7 0\n", 2)]:
            self.wrong(read_table, text, line)
        for text, lines in [("table 0\n", 1), ("table 13\n", 1), ("table -1\n", 1), ("table 2\n0 3 1\n", 2), ("table 2\n-1 0 1\n", 2),
                            ("table 2\n1 1 0\n", 2), ("table 2\n0 1 0\n0 9 0\n1 0 0\n", 4), ("table 2\n2 1 0\n10 0 0\n10 2 0\n", 4)]:
            self.wrong(read_table, text, lines)

    def test_lines_left_out(self):
        lines = RIVER.splitlines()
        for at in range(len(lines)):
            text = "".join(line + "\n" for line in lines[:at] + lines[at + 1:])
            if lines[at].startswith("mark"):
                self.assertNotEqual(read_river(text), two_days())
            elif lines[at].startswith("rain"):
                # The form stands, but it is no rain: either it has no bound, or none of its place.
                self.wrong_or_other(text, len(lines) - 1)
            else:
                self.wrong(read_river, text, at)

    def wrong_or_other(self, text, lines):
        try:
            self.assertNotEqual(read_river(text), two_days())
        except BadText as error:
            self.assertEqual(error.line, lines)

    def test_lines_doubled(self):
        lines = RIVER.splitlines()
        for at in range(len(lines)):
            self.wrong(read_river, "".join(line + "\n" for line in lines[:at + 1] + lines[at:]), at + 1)

    def test_lines_exchanged(self):
        lines = RIVER.splitlines()
        for at in range(len(lines) - 1):
            told = lines[:at] + [lines[at + 1], lines[at]] + lines[at + 2:]
            text = "".join(line + "\n" for line in told)
            # A mark ahead of the next day's line, as the last bound of its kind, leaves the mark behind the day.
            first_wrong = {"lags": at, "day": at, "outlets": at, "takes": at}.get(lines[at].split(" ")[0], at + 1)
            if lines[at].startswith("rain") and lines[at + 1].startswith("mark"):
                first_wrong = at + 1
            if lines[at].startswith("mark") and lines[at + 1] == "day":
                first_wrong = at + 1
            self.wrong(read_river, text, first_wrong)

    def test_rivers_that_are_cut_off(self):
        lines = RIVER.splitlines(keepends=True)
        for many in range(len(lines)):
            text = "".join(lines[:many])
            if many in (8, 9, 16, 17):
                self.assertIsInstance(read_river(text), River)
            else:
                # Something is missing at the end, or what is told is no rain.
                self.wrong(read_river, text, many)

    def test_forms_of_lines(self):
        head = "lags 1 0\n"
        for text, line in [("lags\n", 0), ("lags 0 x\n", 0), ("lag 0\n", 0), ("day\n", 0), (head + "day 0\n", 1), (head + "days\n", 1),
                           (head + "outlets 0 0 0 0\n", 1), (head + "day\ntakes 0 0\n", 2), (head + "day\noutlets 0 0\n", 2),
                           (head + "day\noutlets 0 0 0 0 0 0\n", 2), (head + "day\noutlets - 0 0 0\n", 2),
                           (head + "day\noutlets 0 0 0\n", 2), (head + "day\noutlets\n", 2), (head + "day\noutlets 0 0 0 0\nrain 0 1 0\n", 3),
                           (head + "day\noutlets 0 - 0 -\ntakes 0\n", 3), (head + "day\noutlets 0 - 0 -\ntakes 0 0 0\n", 3),
                           (head + "day\noutlets 0 - 0 -\ntakes\n", 3), (head + "day\noutlets 0 - 0 -\ntakes 0 -\n", 3),
                           (head + "day\noutlets 0 - 0 -\ntakes 0 0\nrain 0 1\n", 4),
                           (head + "day\noutlets 0 - 0 -\ntakes 0 0\nmark 0 1 0\nrain 0 1 0\n", 5),
                           (head + "day\noutlets 0 - 0 -\ntakes 0 0\nmark 0 1 0\nlags 1 0\n", 5),
                           (head + "day\noutlets 0 - 0 -\ntakes 0 0\nmark 0 1 0\nmark 0 1 0\n", 5),
                           (head + "day\noutlets 0 - 0 -\ntakes 0 0\nrain 0 2 0\nrain 0 1 0\nday 7\n", 5),
                           (head + "day\noutlets 0 - 0 -\ntakes 0 0\nrain 0 2 0\nmark 0 1 0\ntakes 0 0\n", 6)]:
            self.wrong(read_river, text, line)

    def test_what_is_no_river(self):
        day = "day\noutlets 0 2 0 -\ntakes 0 0\nrain 0 1 0\nrain 1 0 1\nrain 1 2 0\nrain 2 1 1\n"
        self.assertEqual(len(read_river("lags 3 0\n" + day)), 1)
        for head in ["lags 0 1\n", "lags 4 0\n", "lags -1 0\n", "lags 0 0\n"]:
            if head == "lags 0 0\n":
                self.assertEqual(len(read_river(head + day)), 1)
            else:
                self.wrong(read_river, head + day, 8)
        for old, new in [("0 2 0 -", "3 2 0 -"), ("0 2 0 -", "-1 2 0 -"), ("0 2 0 -", "0 -2 0 -"), ("takes 0 0", "takes -1 0"),
                         ("rain 0 1 0", "rain 0 1 1"), ("rain 1 0 1", "rain 1 0 -1"), ("rain 2 1 1", "rain 3 1 1"), ("rain 1 2 0", "rain 1 1 0"),
                         ("rain 0 1 0", "rain -1 1 0"), ("rain 2 1 1\n", "rain 2 1 1\nmark 9 8 0\n"), ("rain 2 1 1\n", "rain 2 1 1\nmark 0 0 0\n")]:
            text = "lags 1 0\n" + day.replace(old, new)
            self.wrong(read_river, text, text.count("\n"))
        for head in ["lags 0\n", "lags 0 0 0 0 0 0\n"]:
            many = head.count("0")
            text = head + "day\noutlets" + " 0 0" * many + "\ntakes" + " 0" * many + "\n"
            self.wrong(read_river, text, 4)
        self.wrong(read_river, "lags 0 0\n", 1)
        # The first line that cannot stand there is ahead of all that the lines together are not.
        self.wrong(read_river, "lags 9 9\n" + day + "x\n", 8)

    def test_rights(self):
        for text, line in [("right\n", 0), ("right a 0 0\n", 0), ("right a 0 0 1 1\n", 0), ("a 0 0 1\n", 0), ("rights a 0 0 1\n", 0),
                           ("right  0 0 1\n", 0), (RIGHTS + "right a b 0 1\n", 2), (RIGHTS + "\n", 2), ("right A 9 9 9\nright a 0 0\n", 1)]:
            self.wrong(read_rights, text, line)
        for text, lines in [("right A 0 0 1\n", 1), ("right 7 0 0 1\n", 1), ("right - 0 0 1\n", 1), ("right abcdefg 0 0 1\n", 1),
                            ("right a 5 0 1\n", 1), ("right a -1 0 1\n", 1), ("right a 0 -1 1\n", 1), ("right a 0 0 0\n", 1),
                            ("right a 0 0 1\nright a 0 0 1\n", 2), ("right a=b 0 0 1\n" + RIGHTS, 3),
                            ("".join(f"right {name} 0 0 1\n" for name in "abcdefghi"), 9)]:
            self.wrong(read_rights, text, lines)

    def test_reasons(self):
        for when in ["morning", "evening"]:
            for why, parts in [("mark", ("mark",)), ("sum 3 0", ("sum", 3, 0)), ("next 8", ("next", 8)), ("rain 0", ("rain", 0))]:
                self.assertEqual(read_reasons(f"{when} -4 12 0 -9 {why}\n"), [(when, -4, 12, 0, -9, parts)])
        good = "evening 3 1 0 5 mark\n"
        for line in ["noon 3 1 0 5 mark", "evening 3 1 0 5", "evening 3 1 0 mark", "evening 3 1 0 5 5 mark", "evening 3 13 0 5 mark",
                     "evening 3 1 13 5 mark", "evening 3 -1 0 5 mark", "evening 3 1 -1 5 mark", "evening 3 1 0 5 sum", "evening 3 1 0 5 sum 1",
                     "evening 3 1 0 5 sum 1 2 3", "evening 3 1 0 5 sum 1 -2", "evening 3 1 0 5 next", "evening 3 1 0 5 next -1",
                     "evening 3 1 0 5 next 1 1", "evening 3 1 0 5 rain", "evening 3 1 0 5 rain -1", "evening 3 1 0 5 mark 0",
                     "evening 3 1 0 5 marks", "3 1 0 5 mark", "mark", "evening", "evening 3 1 0 5 5"]:
            self.wrong(read_reasons, line + "\n", 0)
            self.wrong(read_reasons, good * 3 + line + "\n" + good + "x\n", 3)


if __name__ == "__main__":
    unittest.main()
