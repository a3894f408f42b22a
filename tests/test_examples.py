"""The examples of the document as they stand, and that of the README."""

import ast
import builtins
import doctest
import re
import unittest
from pathlib import Path

DOCUMENT = """
>>> from blindweirs.days import Day, rain_between, River
>>> from blindweirs.kept import can_keep, tables
>>> from blindweirs.tables import Table
>>> river = River([Day([0], [(0, 2)], rain_between([0], [3]), None, Table(1, {(1, 0): 5}))])
>>> [morning.bounds for morning, evening in tables(river, 0, 1)]
[{(0, 1): 0, (1, 0): 3}, {(0, 1): 0, (1, 0): 4}]
>>> (can_keep(river, 0, 1, (3,)), can_keep(river, 0, 1, (4,)))
(True, False)

>>> from blindweirs.seeing import worth_of_seeing
>>> shut, dry = [(0, 0), (0, 0)], rain_between([0, 0], [0, 0])
>>> one = Day([0, 0], [(0, 1), (0, 0)], dry)
>>> two = Day([0, 0], shut, rain_between([0, 0], [0, 1]), None, Table(2, {(2, 1): 1, (1, 2): -1}))
>>> (can_keep(River([one, two]), 0, 1, (1, 0)), worth_of_seeing(River([one, two]), 0, 1, (1, 0)))
(False, 1)

>>> from blindweirs.rights import Rights, sure_lots, sure_number
>>> rights = Rights([("mill", 0, 1, 2), ("farm", 0, 0, 1)])
>>> (sure_number(river, rights, 0, 1, (2,)), sure_lots(river, rights, 0, 1, (2,)))
(1, [('farm',), ('mill',)])
"""


class ExamplesTest(unittest.TestCase):
    def test_of_the_document(self):
        # What shows values keeps the last one among the builtins.
        self.addCleanup(vars(builtins).pop, "_", None)
        told = doctest.DocTestParser().get_doctest(DOCUMENT, {}, "document", None, None)
        runner = doctest.DocTestRunner(verbose=False)
        runner.run(told)
        self.assertEqual((runner.failures, len(told.examples)), (0, 14))

    def test_of_the_readme(self):
        text = (Path(__file__).parent.parent / "README.md").read_text()
        code = "\n".join(re.findall(r"```python\n(.*?)```", text, re.DOTALL))
        names = {}
        checked = 0
        for line in code.splitlines():
            told, _, answer = line.partition("  # ")
            if self.is_value(answer):
                self.assertEqual(eval(told, names), ast.literal_eval(answer), line)
                checked += 1
            else:
                exec(told, names)
        self.assertEqual(checked, 13)

    def is_value(self, comment):
        try:
            ast.literal_eval(comment)
        except (SyntaxError, ValueError):
            return False
        return True


if __name__ == "__main__":
    unittest.main()
