"""Errors: their names, their base and their attributes."""

import unittest

from blindweirs import errors

PLAIN = ["BadWater", "OtherSize", "BadPoints", "BadRain", "BadLags", "BadPlace", "BadRiver", "BadNumber", "BadRow",
         "BadReleases", "BadReasons", "NoRain", "BadRight", "BadLot", "OtherLags", "BadPlaces", "NotApart",
         "BadPromise", "BadPrices", "BadRains", "BadSeason", "BadTakings", "OtherSpots", "NothingDone", "BadLed"]
TOLD = {"BadTable": "part", "BadDay": "part", "BadDays": "at", "BadRows": "at", "BadRights": "at", "BadName": "name",
        "TooMany": "most", "NotPlain": "day", "BadSums": "at", "NotNow": "word", "BadJournal": "at",
        "BadText": "line"}


class ErrorsTest(unittest.TestCase):
    def test_all_stand_directly_below_the_base(self):
        self.assertEqual(errors.RiverError.__bases__, (ValueError,))
        for name in [*PLAIN, *TOLD]:
            self.assertEqual(getattr(errors, name).__bases__, (errors.RiverError,), name)
            self.assertEqual(getattr(errors, name).__module__, "blindweirs.errors", name)

    def test_those_without_an_attribute_are_made_with_a_message(self):
        for name in PLAIN:
            self.assertEqual(str(getattr(errors, name)("a message")), "a message")

    def test_attributes_may_be_any_value(self):
        for name, attribute in TOLD.items():
            for value in [None, 3, "size", (1, 2), [1], {}, 10 ** 5000]:
                error = getattr(errors, name)
                self.assertEqual(getattr(error(value), attribute), value, name)
                self.assertEqual(getattr(error(**{attribute: value}), attribute), value, name)
                self.assertIsInstance(str(error(value)), str)

    def test_no_further_errors(self):
        found = [name for name, thing in vars(errors).items() if isinstance(thing, type)]
        self.assertEqual(sorted(found), sorted(["RiverError", *PLAIN, *TOLD]))
