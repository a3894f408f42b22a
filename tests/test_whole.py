"""The whole document: points 1 and 2, the conventions of point 3, and every name of the interface."""

import copy
import inspect
import unittest
from importlib import import_module

from blindweirs.claims import case, shield
from blindweirs.days import Day, River, is_rain, rain_between
from blindweirs.desk import Desk
from blindweirs.due import Season, call, course, needs
from blindweirs.errors import (BadDay, BadDays, BadJournal, BadLags, BadLed, BadLot, BadName, BadNumber, BadPlace, BadPlaces,
                               BadPoints, BadPrices, BadPromise, BadRain, BadRains, BadReasons, BadReleases, BadRight, BadRights,
                               BadRiver, BadRow, BadRows, BadSeason, BadSums, BadTable, BadTakings, BadText, BadWater, NothingDone,
                               NotNow, OtherSize, RiverError)
from blindweirs.journals import journal_of
from blindweirs.kept import tables
from blindweirs.live import Led
from blindweirs.nets import known_ring
from blindweirs.power import worths
from blindweirs.reasons import book
from blindweirs.rights import Rights, is_claim
from blindweirs.sums import LeastSum, cover
from blindweirs.tables import Table, is_water
from blindweirs.texts import reasons_text, rights_text, river_text, table_text
from blindweirs.years import lasting
from brute import any_values
from test_interface import CLASSES, FUNCTIONS

DAY = Day([1, 0], [(0, 2), (0, None)], rain_between([0, 0], [1, 1]), None, Table(3, {(1, 0): 4, (3, 2): 5}))
RIVER = River([DAY])
OTHER = River([DAY.with_takes([0, 1])])
SHUT = River([DAY.with_outlets([(0, 0), (0, 0)])])
RIGHTS = Rights([("mill", 1, 1, 1), ("farm", 0, 0, 1)])
FEWER = Rights([("farm", 0, 1, 2), ("mill", 1, 1, 1)])
WATER = (1, 1, 1)
TABLE = Table(3, {(1, 0): 4, (0, 1): 0, (3, 1): 2})
ROWS = [(1, 0), (0, 1)]
RELEASES = [(1, 0), (0, 1)]
LEAST, MORE = LeastSum([(1, ((0, 0),)), (3, ())]), LeastSum([(2, ((0, 0), (0, 1))), (4, ())])
SEASON, NEW = Season(RIVER, 0, 1, WATER, RIGHTS), Season(RIVER, 0, 1, (0, 0, 0), FEWER)
RAINS = {(0, 0): 1, (1, 1): 2}
BOOK = book(SHUT, 0, 4, WATER)
ROOM = River([DAY.with_marks(Table(3, {(1, 0): 1, (3, 2): 1})).with_outlets([(0, 1), (0, 1)])])


def led_river():
    led = Led(RIVER, RIGHTS, 3, WATER)
    led.come((1, 0))
    return led


LED = led_river()
STRETCH = {"river": RIVER, "first": 0, "last": 1}
KNOWN = {"river": RIVER, "first": 0, "rows": ROWS, "water": WATER}
PRICES = [[1, 2], [3, -1]]
CHANGE = {"old": RIVER, "old_rights": RIGHTS, "new": OTHER, "new_rights": RIGHTS, "first": 0, "last": 1}
TODAY = {**STRETCH, "water": WATER, "row": (1, 0)}
# For each parameter a value that is as described, unless a function is told with others.
VALUES = {
    "table": TABLE, "water": WATER, "size": 3, "bounds": {(0, 1): 0}, "points": (2,), "lags": [1, 0], "place": 1, "least": [0, 0],
    "greatest": [1, 2], "a": 1, "b": 0, "day": DAY, "row": (1, 0), "releases": [1, 0], "river": RIVER, "first": 0, "last": 1,
    "rows": ROWS, "after": TABLE, "reasons": BOOK, "at": 0, "rights": RIGHTS, "lot": ("mill",), "name": "mill", "right": ("new", 0, 0, 1),
    "number": 1, "order": [1, 0], "border": 0, "promise": [(0, 3)], "most": 9, "days": 1, "prices": PRICES, "sums": [(1, ())],
    "season": SEASON, "rains": RAINS, "takings": {"mill": 1}, "led": LED, "journal": journal_of(LED), "text": river_text(RIVER),
    "line": "day", "work": lambda led: led.today, "old": SEASON, "new": NEW, "one": TABLE, "other": TABLE, "thing": None,
    "outlets": [(0, 1), (0, None)], "rain": rain_between([0, 0], [1, 2]), "takes": [0, 1], "marks": TABLE}
OWN_VALUES = {
    "worn": {"rain": Table(3, {(a, b): 2 for a in range(4) for b in range(4) if a != b})}, "walk": {"releases": RELEASES},
    "first_unsound": {"releases": RELEASES}, "is_book": {"river": SHUT, "last": 4}, "next_by": {"at": len(BOOK) - 1},
    "row_by": {"river": SHUT, "at": [at for at, reason in enumerate(BOOK) if reason[5][0] == "rain"][0]},
    "injured": CHANGE, "injury": CHANGE, "is_injury": CHANGE, "promise_stretch": {"least": 0}, "yielded": {"releases": RELEASES},
    "safe_day": {"prices": [1, 2]}, "never_more": {"one": LEAST, "other": MORE}, "cover": {"one": LEAST, "other": MORE},
    "is_cover": {"one": LEAST, "other": MORE}, "more_at": {"one": MORE, "other": LEAST}, "read_table": {"text": table_text(TABLE)},
    "read_rights": {"text": rights_text(RIGHTS)}, "read_reasons": {"text": reasons_text(BOOK)}, "Table": {}, "River": {"days": [DAY]},
    "Rights": {"rights": [("mill", 0, 0, 1)]}, "lasts": {"first": 3}, "younger": {"number": 1}}
ERRORS = {
    "table": BadTable, "water": (BadWater, OtherSize), "size": BadTable, "bounds": BadTable, "points": BadPoints, "lags": BadLags,
    "place": BadPlace, "least": BadRain, "greatest": BadRain, "a": BadPoints, "b": BadPoints, "day": BadDay, "row": BadRow,
    "releases": BadReleases, "river": BadRiver, "first": BadNumber, "last": BadNumber, "rows": BadRows, "after": BadTable,
    "reasons": BadReasons, "at": BadNumber, "rights": BadRights, "lot": BadLot, "name": BadName, "right": BadRight, "number": BadNumber,
    "order": BadPlaces, "border": BadPlace, "promise": BadPromise, "most": BadNumber, "days": BadNumber, "prices": BadPrices,
    "sums": BadSums, "season": BadSeason, "rains": BadRains, "takings": BadTakings, "led": BadLed, "journal": BadJournal, "text": BadText,
    "old": BadSeason, "new": BadSeason, "one": BadTable, "other": BadTable, "outlets": BadDay, "rain": BadRain, "takes": BadDay,
    "marks": BadDay, "old_rights": BadRights, "new_rights": BadRights}
OWN_ERRORS = {
    "Day": {"rain": BadDay}, "River": {"days": BadDays}, "never_more": {"one": BadSums, "other": BadSums},
    "cover": {"one": BadSums, "other": BadSums}, "is_cover": {"one": BadSums, "other": BadSums},
    "more_at": {"one": BadSums, "other": BadSums}, "promise_stretch": {"least": BadNumber}, "injured": {"old": BadRiver, "new": BadRiver},
    "injury": {"old": BadRiver, "new": BadRiver}, "is_injury": {"old": BadRiver, "new": BadRiver}}
JUDGED = ("thing", "line", "journal")


def is_plain_number(value):
    return isinstance(value, int) and not isinstance(value, bool)


def may_fit(name, function, value):
    """Whether one of any_values may stand for a parameter, or is not judged by an error."""
    numbers = ("size", "place", "a", "b", "first", "last", "at", "number", "border", "most", "days")
    if name in JUDGED or name == "work":
        return True
    if (name, function) == ("days", "River"):
        return isinstance(value, tuple) and len(value) == 1 and isinstance(value[0], Day)
    if name in numbers:
        return is_plain_number(value)
    kinds = {"table": Table, "after": Table, "day": Day, "river": River, "rights": (Rights, list, tuple), "season": Season, "led": Led,
             "text": str, "rain": Table, "marks": (Table, type(None)), "takes": type(None), "old_rights": Rights, "new_rights": Rights}
    if name in kinds:
        return isinstance(value, kinds[name]) and not (name == "rights" and function != "Rights" and not isinstance(value, Rights))
    if name in ("one", "other", "old", "new"):
        return isinstance(value, (Table, LeastSum, River, Season))
    if name == "least" and function == "promise_stretch":
        return is_plain_number(value)
    if name == "promise" or (name, function) == ("prices", "yielded"):
        return value in ([(1, 2)], [(1, 2, 3, 4)], [(1, 2, 3, 4, 5, 6)]) and (name == "prices" or value == [(1, 2)])
    return name in ("bounds", "rains", "takings") and (value is None or value == {})


def all_calls():
    """For each function and class of the interface its name, itself and its parameters."""
    for module, signatures in FUNCTIONS.items():
        for signature in signatures:
            yield told_call(module, signature)
    for module, classes in CLASSES.items():
        for signature in classes:
            yield told_call(module, signature)


def told_call(module, signature):
    name = signature.split("(")[0]
    made = getattr(import_module(f"blindweirs.{module}"), name)
    values = {part: OWN_VALUES.get(name, {}).get(part, VALUES.get(part)) for part in inspect.signature(made).parameters}
    return name, made, values


def methods():
    """For each class an object, and for each of its methods with parameters what it is called with."""
    return [(TABLE, "fits", ["water"]), (DAY, "with_outlets", ["outlets"]), (DAY, "with_rain", ["rain"]), (DAY, "with_takes", ["takes"]),
            (DAY, "with_marks", ["marks"]), (RIVER, "day_on", ["number"]), (RIGHTS, "right", ["name"]), (RIGHTS, "elders", ["name"]),
            (RIGHTS, "with_right", ["at", "right"]), (RIGHTS, "without", ["name"]), (RIGHTS, "moved", ["name", "at"]),
            (LEAST, "value", ["rains"]), (LEAST, "known", ["rains"]), (LED, "come", ["row"]), (LED, "let", ["releases"]),
            (LED, "drop", ["name"]), (LED, "file", ["right"]), (LED, "change", ["day", "number"]), (LED, "tried", ["work"]),
            (Desk(river_text(RIVER), 3, WATER), "say", ["line"])]


class InterfaceTest(unittest.TestCase):
    def test_by_position_and_by_name(self):
        for name, made, values in all_calls():
            one, other = made(*values.values()), made(**dict(reversed(values.items())))
            if not isinstance(one, Desk):
                self.assertEqual(one, other, name)

    def test_methods_by_name(self):
        for thing, method, names in methods():
            values = {name: VALUES[name] for name in names}
            if isinstance(thing, Led):
                thing = Led(RIVER, RIGHTS, 3, WATER) if method in ("come",) else led_river()
            other = thing.copy() if isinstance(thing, Led) else thing
            self.assertEqual(getattr(thing, method)(*values.values()), getattr(other, method)(**values))

    def test_deeds_and_methods_without_a_result(self):
        led = Led(RIVER, RIGHTS, 3, WATER)
        self.assertEqual([led.come((1, 0)), led.let((1, 0)), led.drop("farm"), led.file(("new", 0, 2, 1)), led.change(DAY, 3), led.undo()],
                         [None] * 6)


class AnyValueTest(unittest.TestCase):
    def test_functions_and_classes(self):
        for name, made, values in all_calls():
            for part in values:
                if part == "first" and name == "Led":
                    continue
                for value in any_values():
                    told = {**values, part: value}
                    self.check(name, part, value, lambda: made(**told))

    def check(self, name, part, value, work):
        """An error of the parameter for what is not as described, and no other error for anything."""
        expected = OWN_ERRORS.get(name, {}).get(part, ERRORS.get(part, ()))
        if may_fit(part, name, value):
            try:
                work()
            except RiverError:
                self.assertFalse(part == "thing", (name, value))
        else:
            with self.assertRaises(expected, msg=(name, part, value)):
                work()

    def test_methods(self):
        for thing, method, names in methods():
            for part in names:
                for value in any_values():
                    told = {**{name: VALUES[name] for name in names}, part: value}
                    own = Led(RIVER, RIGHTS, 3, WATER) if method == "come" else led_river()
                    judge = own if isinstance(thing, Led) else thing
                    if part == "rain":
                        told_error = BadDay
                        if not is_rain(value):
                            with self.assertRaises(told_error):
                                getattr(judge, method)(**told)
                    elif part != "work":
                        self.check(type(thing).__name__, part, value, lambda: getattr(judge, method)(**told))

    def test_judges(self):
        for name, made, values in all_calls():
            if "thing" in values:
                for value in any_values():
                    found = made(**{**values, "thing": value})
                    self.assertIn(found, (True, False, None) if name == "shown" else (True, False), (name, value))

    def test_what_is_shown_is_judged_so(self):
        from blindweirs import claims, due, kept, nets, power, reasons, sums, tables as tables_module, years
        lines = [
            (reasons.is_book, (SHUT, 0, 4, WATER), BOOK), (kept.is_led, (RIVER, 0, 1), tables(RIVER, 0, 1)),
            (years.is_lasting, (ROOM,), lasting(ROOM)), (sums.is_cover, (LEAST, MORE), cover(LEAST, MORE)),
            (tables_module.is_ring, (Table(2, {(0, 1): 1, (1, 0): -2}),), tables_module.ring(Table(2, {(0, 1): 1, (1, 0): -2}))),
            (nets.is_known_ring, (SHUT, 0, [(1, 1)] * 9, WATER), known_ring(SHUT, 0, [(1, 1)] * 9, WATER)),
            (due.is_course, (SEASON, RAINS, {"farm": 1}), course(SEASON, RAINS, {"farm": 1})),
            (due.is_call, (NEW, {}, "farm"), call(NEW, {}, "farm")), (claims.is_case, (SEASON, NEW, "farm"), case(SEASON, NEW, "farm")),
            (claims.is_shield, (SEASON, SEASON, "mill"), shield(SEASON, SEASON, "mill"))]
        for judge, told, thing in lines:
            self.assertIsNotNone(thing, judge)
            self.assertIs(judge(*told, thing), True, judge)
            # A list may stand as a tuple where a list is expected, and nowhere else.
            self.assertIs(judge(*told, tuple(thing) if isinstance(thing, list) else list(thing)), isinstance(thing, list), judge)
        shown = power.shown(RIVER, 0, ROWS, WATER, PRICES, worths(RIVER, 0, ROWS, WATER, PRICES))
        self.assertEqual(shown, power.dearest(RIVER, 0, ROWS, WATER, PRICES))


class ConventionsTest(unittest.TestCase):
    def test_objects_cannot_be_iterated_over(self):
        for thing in [TABLE, DAY, RIVER, RIGHTS, LEAST, SEASON, LED, Desk(river_text(RIVER), 0, WATER)]:
            for use in (iter, list, lambda value: 0 in value):
                with self.assertRaises(TypeError):
                    use(thing)

    def test_objects_are_equal_to_no_value_of_another_kind(self):
        things = [TABLE, DAY, RIVER, RIGHTS, LEAST, SEASON, LED, Desk(river_text(RIVER), 0, WATER)]
        for one in things:
            for other in any_values() + things:
                if type(one) is not type(other):
                    self.assertFalse(one == other)
                    self.assertTrue(one != other)

    def test_what_is_passed_is_not_changed(self):
        for name, made, values in all_calls():
            lists = {part: copy.deepcopy(value) for part, value in values.items() if isinstance(value, (list, dict))}
            if lists:
                first = made(**{**values, **lists})
                self.assertEqual(lists, {part: values[part] for part in lists}, name)
                for value in lists.values():
                    value.clear()
                if not isinstance(first, Desk):
                    self.assertEqual(first, made(**values), name)

    def test_what_is_returned_is_new(self):
        for name, made, values in all_calls():
            first, again = made(**values), made(**values)
            if isinstance(first, (list, dict)) and first:
                self.spoil(first)
                self.assertEqual(made(**values), again, name)
                self.assertNotEqual(first, again, name)

    def spoil(self, thing):
        for inner in thing if isinstance(thing, list) else thing.values():
            if isinstance(inner, (list, dict)):
                self.spoil(inner)
        thing.clear()

    def test_properties_are_new(self):
        for thing in [TABLE, DAY, RIVER, RIGHTS, LEAST, SEASON, LED]:
            for name, part in vars(type(thing)).items():
                if isinstance(part, property) and isinstance(getattr(thing, name), (list, dict)):
                    before = copy.deepcopy(getattr(thing, name))
                    self.assertTrue(before)
                    getattr(thing, name).clear()
                    self.assertEqual(getattr(thing, name), before)

    def test_dicts_have_ascending_keys(self):
        for name, made, values in all_calls():
            found = made(**values)
            if isinstance(found, dict):
                # Nodes of a net are 0 and pairs: node 0 stands ahead of all pairs.
                rank = (lambda pair: [() if node == 0 else node for node in pair]) if name in ("net", "worths") else None
                self.assertEqual(list(found), sorted(found, key=rank), name)

    def test_the_order_of_keys_has_no_meaning(self):
        for name, made, values in all_calls():
            told = {part: dict(reversed(value.items())) if isinstance(value, dict) else value for part, value in values.items()}
            if any(isinstance(value, dict) for value in values.values()):
                self.assertEqual(made(**told), made(**values), name)

    def test_tuples_for_lists(self):
        for name, made, values in all_calls():
            told = {part: tuple(value) if isinstance(value, list) else value for part, value in values.items()}
            if any(isinstance(value, list) for value in values.values()):
                self.assertEqual(made(**told), made(**values), name)


class WholeTest(unittest.TestCase):
    def test_a_call_that_raises_changes_nothing(self):
        led = led_river()
        before = led.copy()
        for work, told in [(led.come, ((0, 0),)), (led.let, ((9, 9),)), (led.let, ((2, 9),)), (led.drop, ("town",)), (led.file, (("mill", 0, 0, 1),)),
                           (led.change, (DAY, 4)), (led.tried, (lambda river: river.undo() or river.undo(),))]:
            with self.assertRaises((RiverError, NothingDone)):
                work(*told)
            self.assertEqual((led, led.row, led.lot, led.today), (before, (1, 0), ("mill", "farm"), 0))
        with self.assertRaises(NotNow):
            led.come((0, 0))
        for thing, work in [(LEAST, lambda: LEAST.value(None)), (RIGHTS, lambda: RIGHTS.with_right(0, ("mill", 0, 0, 1))),
                            (TABLE, lambda: TABLE.fits((1, 2))), (DAY, lambda: DAY.with_takes([-1, 0])), (RIVER, lambda: RIVER.day_on(-1))]:
            kept = copy.deepcopy(thing)
            with self.assertRaises(RiverError):
                work()
            self.assertEqual(thing, kept)

    def test_a_river_from_its_text_to_its_dealing(self):
        """One river through the parts: told as a text, led blind to its end by what it may, and dealt behind it."""
        river = River([DAY.with_rain(rain_between([0, 0], [2, 1]))])
        rights = Rights([("mill", 1, 2, 2), ("farm", 0, 1, 1)])
        led = Led(import_module("blindweirs.texts").read_river(river_text(river)), rights, 3, (3, 1, 2))
        self.assertIs(led.is_kept(), True)
        self.assertEqual(led.sure(), ("mill", "farm"))
        rains = {}
        for row in [(0, 0), (2, 1), (0, 1), (1, 0)]:
            rains.update({(led.today, place): number for place, number in enumerate(row)})
            led.come(row)
            led.let(led.may()[0])
        self.assertIs(led.is_over, True)
        season = Season(river, 0, 3, (3, 1, 2), rights)
        dealt = import_module("blindweirs.due").deal(season, rains)
        # What was taken for all rains is the more to be had when all rain is known.
        self.assertEqual(dealt, {"farm": 1, "mill": 2})
        self.assertIsNone(import_module("blindweirs.due").unmet(season, ("mill", "farm"), rains))
        self.assertEqual(needs(season, ("farm",)), [])
        self.assertIsNone(import_module("blindweirs.journals").first_wrong(led, journal_of(led)))

    def test_kinds(self):
        self.assertTrue(is_water(WATER) and is_claim(RIGHTS.rights[0]) and is_rain(DAY.rain))


if __name__ == "__main__":
    unittest.main()
