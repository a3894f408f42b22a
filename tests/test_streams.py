"""As much as can flow: the helper behind courses and cases."""

import random
import unittest
from itertools import combinations

from blindweirs.streams import greatest_flow


def least_cut(limits, inner):
    """The least that leads out of a set of nodes with the source and without the goal; None ways must not."""
    cuts = []
    for many in range(len(inner) + 1):
        for chosen in combinations(inner, many):
            leaving = [most for (x, y), most in limits.items() if x in ("s", *chosen) and y not in ("s", *chosen)]
            if None not in leaving:
                cuts.append(sum(leaving))
    return min(cuts)


class StreamsTest(unittest.TestCase):
    def test_against_all_cuts(self):
        choice = random.Random(7)
        for _ in range(300):
            inner = list(range(choice.randint(1, 4)))
            limits = {("s", node): choice.choice([0, 2, 10 ** 15, 7]) for node in inner if choice.random() < 0.7}
            limits.update({(node, "g"): choice.choice([None, 0, 5, 10 ** 15]) for node in inner if choice.random() < 0.7})
            limits.update({(x, y): choice.choice([None, 1, 3, 10 ** 14]) for x in inner for y in inner
                           if x != y and choice.random() < 0.5})
            sent = greatest_flow(limits, "s", "g")
            self.assertEqual(set(sent), set(limits))
            for pair, most in limits.items():
                self.assertTrue(0 <= sent[pair] and (most is None or sent[pair] <= most))
            for node in inner:
                self.assertEqual(sum(number for (_, y), number in sent.items() if y == node),
                                 sum(number for (x, _), number in sent.items() if x == node))
            self.assertEqual(sum(number for (x, _), number in sent.items() if x == "s"), least_cut(limits, inner))

    def test_what_is_sent_may_have_to_go_back(self):
        limits = {("s", 0): 1, ("s", 1): 1, (0, 2): 1, (0, 3): 1, (1, 2): 1, (2, "g"): 1, (3, "g"): 1}
        sent = greatest_flow(limits, "s", "g")
        self.assertEqual((sent[(0, 3)], sent[(1, 2)]), (1, 1))

    def test_no_way(self):
        self.assertEqual(greatest_flow({}, "s", "g"), {})
        self.assertEqual(greatest_flow({("s", 0): 5, (1, "g"): 5}, "s", "g"), {("s", 0): 0, (1, "g"): 0})


if __name__ == "__main__":
    unittest.main()
