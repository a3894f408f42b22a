"""The search by halves that other modules rest on."""

import unittest

from blindweirs.search import first_from, last_up_to


class SearchTest(unittest.TestCase):
    def test_each_end(self):
        for least in range(3):
            for most in range(least, least + 9):
                for edge in range(least, most + 1):
                    self.assertEqual(first_from(least, most, lambda number: number >= edge), edge)
                    self.assertEqual(last_up_to(least, most, lambda number: number <= edge), edge)
                self.assertIsNone(first_from(least, most, lambda number: False))
                self.assertIsNone(last_up_to(least, most, lambda number: False))

    def test_great_numbers(self):
        asked = []

        def holds(number):
            asked.append(number)
            return number >= 123456789

        self.assertEqual(first_from(0, 10 ** 12, holds), 123456789)
        self.assertLess(len(asked), 45)
