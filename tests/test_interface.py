"""The interface: names, arguments, properties, and where each thing is defined."""

import ast
import inspect
import unittest
from importlib import import_module
from pathlib import Path

import blindweirs

PACKAGE = Path(blindweirs.__file__).parent
ORDER = ["errors", "values", "ways", "tables", "days", "given", "steps", "kept", "reasons", "rights", "search", "changes",
         "letting", "owners", "years", "nets", "seeing", "flows", "power", "sums", "streams", "channels", "due", "claims",
         "live", "journals", "words", "texts", "desk"]

FUNCTIONS = {
    "tables": ["is_water(thing)", "sums(water)", "nothing(size)", "closed(table)", "is_empty(table)", "ring(table)",
               "is_ring(table, thing)", "is_within(one, other)", "is_same(one, other)", "both(one, other)",
               "highest(table)", "lowest(table)", "a_water(table)", "hidden(table, points)", "worn(table, rain)"],
    "days": ["cells_of(lags)", "point_of(lags, place)", "is_rain(thing)", "rain_between(least, greatest)",
             "worst_row(rain, a, b)"],
    "steps": ["evening(day, water, row, releases)", "is_sound(day, water)", "broken(day, water)",
              "walk(river, first, water, rows, releases)", "first_unsound(river, first, water, rows, releases)"],
    "kept": ["comes_from(lags)", "before(day, after)", "tables(river, first, last)",
             "can_keep(river, first, last, water)", "releases_for(river, first, last, water, row)",
             "is_keeping(river, first, last, water, row, releases)", "is_led(river, first, last, thing)"],
    "reasons": ["is_book(river, first, last, water, thing)", "book(river, first, last, water)",
                "row_by(river, reasons, at)", "next_by(reasons, at, water)"],
    "rights": ["is_claim(thing)", "river_of(river, rights, lot, first, last)",
               "sure_table(river, rights, lot, first, last)", "is_sure(river, rights, name, first, last, water)",
               "sure_number(river, rights, first, last, water)", "sure_lots(river, rights, first, last, water)",
               "chosen_lot(river, rights, first, last, water)"],
    "changes": ["injured(old, old_rights, new, new_rights, first, last)",
                "injury(old, old_rights, new, new_rights, first, last, name)",
                "is_injury(old, old_rights, new, new_rights, first, last, name, thing)",
                "harmless_most(river, rights, right, at, first, last)"],
    "letting": ["told_river(river, rights, first, last, row, place, number)",
                "safe_most(river, rights, first, last, water, row, place)",
                "safe_row(river, rights, first, last, water, row, order)",
                "younger(river, rights, number, first, last, water, row)"],
    "owners": ["upper_river(river, border, promise)", "lower_river(river, border, promise)",
               "parts_of(river, border, water)", "promise_stretch(river, border, first, last, water, least)"],
    "years": ["lasting(river)", "lasts(river, first, water)", "is_lasting(river, thing)", "years_enough(river)",
              "failing_day(river, first, water, most)", "turned(river, number)"],
    "nets": ["net(river, first, rows, water)", "known(river, first, rows, water)",
             "known_ring(river, first, rows, water)", "is_known_ring(river, first, rows, water, thing)",
             "known_plan(river, first, rows, water)"],
    "seeing": ["seen_table(river, first, last, days)", "can_see(river, first, last, water, days)",
               "worth_of_seeing(river, first, last, water)"],
    "power": ["yielded(prices, releases)", "dearest(river, first, rows, water, prices)",
              "dearest_plan(river, first, rows, water, prices)", "shown(river, first, rows, water, prices, thing)",
              "worths(river, first, rows, water, prices)", "safe_day(river, first, last, water, row, prices)",
              "led_day_by_day(river, first, rows, water, prices)"],
    "sums": ["never_more(one, other)", "cover(one, other)", "is_cover(one, other, thing)", "more_at(one, other)"],
    "due": ["course(season, rains, takings)", "is_course(season, rains, takings, thing)", "deal(season, rains)",
            "can_have(season, lot)", "call(season, rains, name)", "is_call(season, rains, name, thing)",
            "needs(season, lot)", "unmet(season, lot, rains)"],
    "claims": ["never_loses(old, new, name)", "case(old, new, name)", "is_case(old, new, name, thing)",
               "shield(old, new, name)", "is_shield(old, new, name, thing)", "losers(old, new)", "in_the_way(season)"],
    "journals": ["journal_of(led)", "first_wrong(led, journal)", "replayed(led, journal)"],
    "texts": ["table_text(table)", "river_text(river)", "rights_text(rights)", "reasons_text(reasons)",
              "read_table(text)", "read_river(text)", "read_rights(text)", "read_reasons(text)"],
}
CLASSES = {
    "tables": {"Table(size, bounds=None)": (["size", "bounds"], ["fits(self, water)", "__eq__(self, other)"])},
    "days": {"Day(lags, outlets, rain, takes=None, marks=None)":
             (["lags", "outlets", "rain", "takes", "marks", "sound"],
              ["with_outlets(self, outlets)", "with_rain(self, rain)", "with_takes(self, takes)",
               "with_marks(self, marks)", "__eq__(self, other)"]),
             "River(days)": (["days", "lags"], ["day_on(self, number)", "__len__(self)", "__eq__(self, other)"])},
    "rights": {"Rights(rights=())": (["rights", "names"],
                                     ["right(self, name)", "elders(self, name)", "with_right(self, at, right)",
                                      "without(self, name)", "moved(self, name, at)", "__len__(self)",
                                      "__eq__(self, other)"])},
    "sums": {"LeastSum(sums)": (["sums", "drops"], ["value(self, rains)", "known(self, rains)", "__or__(self, other)",
                                                    "__eq__(self, other)"])},
    "due": {"Season(river, first, last, water, rights)": (["river", "first", "last", "water", "rights"],
                                                          ["__eq__(self, other)"])},
    "live": {"Led(river, rights, last, water, first=0)":
             (["today", "water", "row", "lot", "rights", "log", "is_over"],
              ["come(self, row)", "let(self, releases)", "drop(self, name)", "file(self, right)",
               "change(self, day, number)", "undo(self)", "stretch(self)", "is_kept(self)", "why(self)", "may(self)",
               "sure(self)", "__enter__(self)", "__exit__(self, kind, value, trace)", "tried(self, work)", "copy(self)",
               "__eq__(self, other)"])},
    "desk": {"Desk(text, last, water)": ([], ["say(self, line)"])},
}


def told(function):
    return f"{function.__name__}{inspect.signature(function)}"


class InterfaceTest(unittest.TestCase):
    def test_functions(self):
        for name, signatures in FUNCTIONS.items():
            module = import_module(f"blindweirs.{name}")
            for signature in signatures:
                function = getattr(module, signature.split("(")[0])
                self.assertEqual(told(function), signature)
                self.assertEqual(function.__module__, module.__name__)

    def test_classes(self):
        for name, classes in CLASSES.items():
            module = import_module(f"blindweirs.{name}")
            for signature, (properties, methods) in classes.items():
                made = getattr(module, signature.split("(")[0])
                self.assertEqual(told(made), signature)
                self.assertEqual(made.__module__, module.__name__)
                for attribute in properties:
                    self.assertIsInstance(vars(made)[attribute], property)
                for method in methods:
                    self.assertEqual(told(vars(made)[method.split("(")[0]]), method)

    def test_the_modules_of_the_interface_stand_in_its_order(self):
        told = ["errors", "tables", "days", "steps", "kept", "reasons", "rights", "changes", "letting", "owners", "years",
                "nets", "seeing", "power", "sums", "due", "claims", "live", "journals", "texts", "desk"]
        self.assertEqual([name for name in ORDER if name in told], told)
        self.assertEqual(set(told), {"errors", *FUNCTIONS, *CLASSES})

    def test_the_package_defines_nothing(self):
        body = ast.parse((PACKAGE / "__init__.py").read_text()).body
        self.assertEqual([ast.get_docstring(ast.Module(body, [])) is None, len(body)], [False, 1])

    def test_modules_import_only_from_those_ahead(self):
        files = sorted(path.stem for path in PACKAGE.glob("*.py"))
        self.assertEqual(files, sorted(["__init__", *ORDER]))
        for at, name in enumerate(ORDER):
            for node in ast.walk(ast.parse((PACKAGE / f"{name}.py").read_text())):
                self.assertNotIsInstance(node, ast.Import)
                if isinstance(node, ast.ImportFrom):
                    self.assertIn(node.module, [f"blindweirs.{ahead}" for ahead in ORDER[:at]])
