"""The examples of the document that speak of the modules that are there."""

import unittest

from blindweirs.days import Day, River, rain_between
from blindweirs.kept import can_keep, tables
from blindweirs.rights import Rights, sure_lots, sure_number
from blindweirs.seeing import worth_of_seeing
from blindweirs.tables import Table


class ExamplesTest(unittest.TestCase):
    def setUp(self):
        self.river = River([Day([0], [(0, 2)], rain_between([0], [3]), None, Table(1, {(1, 0): 5}))])

    def test_one_reservoir(self):
        self.assertEqual([morning.bounds for morning, evening in tables(self.river, 0, 1)],
                         [{(0, 1): 0, (1, 0): 3}, {(0, 1): 0, (1, 0): 4}])
        self.assertEqual((can_keep(self.river, 0, 1, (3,)), can_keep(self.river, 0, 1, (4,))), (True, False))

    def test_who_sees_a_day_ahead_can(self):
        shut, dry = [(0, 0), (0, 0)], rain_between([0, 0], [0, 0])
        one = Day([0, 0], [(0, 1), (0, 0)], dry)
        two = Day([0, 0], shut, rain_between([0, 0], [0, 1]), None, Table(2, {(2, 1): 1, (1, 2): -1}))
        self.assertEqual((can_keep(River([one, two]), 0, 1, (1, 0)), worth_of_seeing(River([one, two]), 0, 1, (1, 0))),
                         (False, 1))

    def test_rights(self):
        rights = Rights([("mill", 0, 1, 2), ("farm", 0, 0, 1)])
        self.assertEqual((sure_number(self.river, rights, 0, 1, (2,)), sure_lots(self.river, rights, 0, 1, (2,))),
                         (1, [("farm",), ("mill",)]))
