"""Least sums: point 140."""

import random
import unittest
from itertools import product

from blindweirs.errors import BadRains, BadSums
from blindweirs.sums import LeastSum, cover, is_cover, more_at, never_more
from brute import any_values

A, B, C = (0, 0), (0, 1), (3, 0)
NO_RAINS = [{None: 0}, {(0,): 0}, {(0, 0, 0): 0}, {(-1, 0): 0}, {(0, -1): 0}, {(True, 0): 0}, {(0, False): 0}, {"00": 0},
            {0: 0}, {A: -1}, {A: None}, {A: True}, {A: "1"}, {A: 1, B: [1]}, {A: 1, None: 1}]


def some_sums(choice, drops, most=4, many=6):
    return [(choice.randint(0, most), tuple(sorted(drop for drop in drops if choice.random() < 0.5)))
            for _ in range(choice.randint(1, many))]


def value_of(sums, rains):
    return min(number + sum(rains.get(drop, 0) for drop in lot) for number, lot in sums)


def all_rains(drops, numbers=(0, 1, 3, 10 ** 12)):
    return [dict(zip(drops, told)) for told in product(numbers, repeat=len(drops))]


class LeastSumTest(unittest.TestCase):
    def test_needed_sums(self):
        for told, needed in [
                ([(3, ())], [(3, ())]),
                ([(3, ()), (3, ())], [(3, ())]),
                ([(3, ()), (2, ())], [(2, ())]),
                ([(3, (A,)), (3, ())], [(3, ())]),
                ([(3, (A,)), (4, ())], [(3, (A,)), (4, ())]),
                ([(3, (A, B)), (3, (B,))], [(3, (B,))]),
                ([(3, (B,)), (3, (A, B)), (3, (A,))], [(3, (A,)), (3, (B,))]),
                ([(1, (A, B)), (2, (A,)), (2, (B,)), (5, ())], [(1, (A, B)), (2, (A,)), (2, (B,)), (5, ())]),
                ([(2, (A, B, C)), (1, (A, C)), (9, (B,))], [(1, (A, C)), (9, (B,))]),
                ([(0, ()), (0, (A,)), (7, (C,))], [(0, ())])]:
            self.assertEqual(LeastSum(told).sums, needed)
            self.assertEqual(LeastSum(tuple(told[::-1])).sums, needed)
            self.assertEqual(LeastSum(told * 2), LeastSum(sums=needed))
            self.assertEqual(LeastSum(told).drops, tuple(sorted({drop for _, lot in needed for drop in lot})))

    def test_needed_sums_are_as_few_as_can_be(self):
        choice = random.Random(140)
        for _ in range(200):
            told = some_sums(choice, [A, B, C])
            made = LeastSum(told)
            self.assertEqual(made.sums, sorted(made.sums))
            for rains in all_rains([A, B, C]):
                self.assertEqual(made.value(rains), value_of(told, rains))
            for at in range(len(made.sums)):
                fewer = made.sums[:at] + made.sums[at + 1:]
                self.assertTrue(any(value_of(fewer, rains) != made.value(rains) for rains in all_rains([A, B, C]))
                                if fewer else True)

    def test_equal_exactly_if_all_values_are(self):
        choice = random.Random(141)
        seen = {}
        for _ in range(600):
            one, other = some_sums(choice, [A, B], 2, 4), some_sums(choice, [A, B], 2, 4)
            same = all(value_of(one, rains) == value_of(other, rains) for rains in all_rains([A, B]))
            self.assertIs(LeastSum(one) == LeastSum(other), same)
            seen[same] = True
        self.assertEqual(len(seen), 2)
        made = LeastSum([(0, ())])
        for thing in any_values()[:30] + [made.sums, tuple(made.sums), 0]:
            self.assertFalse(made == thing)
            self.assertTrue(made != thing)
        with self.assertRaises(TypeError):
            iter(made)

    def test_no_sums(self):
        for thing in [None, 0, "", {}, {0: 1}, True, [], (), LeastSum([(0, ())]), "ab"]:
            with self.assertRaises(BadSums) as caught:
                LeastSum(thing)
            self.assertIsNone(caught.exception.at)

    def test_wrong_sums(self):
        good = (1, (A, B))
        wrong = [None, 3, [], (), (1,), [1, ()], (1, (), 0), (-1, ()), (True, ()), ("1", ()), (None, ()), (1, [A]), (1, None),
                 (1, A), (1, (B, A)), (1, (A, A)), (1, (A, B, B)), (1, (C, B)), (1, ([0, 0],)), (1, ((0,),)), (1, ((0, 0, 0),)),
                 (1, ((True, 0),)), (1, ((0, False),)), (1, ((-1, 0),)), (1, ((0, -1),)), (1, (None,)), (1, ("00",)), "1(",
                 {1: ()}, LeastSum([good])]
        for thing in wrong + any_values():
            for told, at in [([thing], 0), ((good, thing, None), 1), ([good, good, thing], 2)]:
                with self.assertRaises(BadSums) as caught:
                    LeastSum(told)
                self.assertEqual(caught.exception.at, at, thing)

    def test_what_was_passed_may_be_changed(self):
        told = [(1, (A,)), (2, ())]
        made = LeastSum(told)
        told.clear()
        made.sums.append((0, ()))
        self.assertEqual(made.sums, [(1, (A,)), (2, ())])
        rains = {B: 4, A: 0}
        self.assertEqual(made.value(rains), 1)
        self.assertEqual(rains, {B: 4, A: 0})

    def test_value(self):
        made = LeastSum([(1, (A, B)), (5, (C,)), (9, ())])
        for rains, number in [({}, 1), ({A: 2}, 3), ({A: 2, B: 3}, 5), ({A: 2, B: 3, C: 7}, 6), ({A: 5, B: 5, C: 3}, 8),
                              ({A: 5, B: 5, C: 5}, 9), ({(9, 9): 50}, 1), ({A: 10 ** 12, C: 10 ** 12}, 9)]:
            self.assertEqual(made.value(rains), number)
            self.assertEqual(made.value(rains=dict(reversed(rains.items()))), number)

    def test_no_rains(self):
        made = LeastSum([(1, (A,))])
        for rains in [thing for thing in any_values() if thing != {}] + NO_RAINS + [[], (), [(A, 1)]]:
            for ask in (made.value, made.known):
                with self.assertRaises(BadRains):
                    ask(rains)

    def test_known(self):
        made = LeastSum([(1, (A, B)), (5, (C,)), (9, ())])
        self.assertEqual(made.known({}), made)
        self.assertEqual(made.known({A: 2}).sums, [(3, (B,)), (5, (C,)), (9, ())])
        self.assertEqual(made.known({A: 0}).sums, [(1, (B,)), (5, (C,)), (9, ())])
        self.assertEqual(made.known({C: 0}).sums, [(1, (A, B)), (5, ())])
        self.assertEqual(made.known(rains={A: 9}), LeastSum([(5, (C,)), (9, ())]))
        self.assertEqual(made.known({(8, 8): 3}), made)
        self.assertEqual(made.known({A: 2, B: 3, C: 1}).sums, [(6, ())])

    def test_known_one_behind_the_other_or_together(self):
        choice = random.Random(142)
        for _ in range(200):
            made = LeastSum(some_sums(choice, [A, B, C]))
            rains = {drop: choice.randint(0, 4) for drop in [A, B, C]}
            told = {drop: rains[drop] for drop in rains if choice.random() < 0.6}
            left = {drop: rains[drop] for drop in rains if drop not in told}
            known = made
            for drop in choice.sample(sorted(told), len(told)):
                known = known.known({drop: told[drop]})
            self.assertEqual(known, made.known(told))
            self.assertFalse(set(known.drops) & set(told))
            self.assertEqual(known.value(left), made.value(rains))
            self.assertEqual(known.value(rains), made.value(rains))

    def test_the_lesser_of_both(self):
        choice = random.Random(143)
        for _ in range(200):
            one, other = LeastSum(some_sums(choice, [A, B, C])), LeastSum(some_sums(choice, [A, B, C]))
            before = (one.sums, other.sums)
            both = one | other
            for rains in all_rains([A, B, C]):
                self.assertEqual(both.value(rains), min(one.value(rains), other.value(rains)))
            self.assertEqual(both, LeastSum(one.sums + other.sums))
            self.assertEqual(both, other | one)
            self.assertEqual(one | one, one)
            self.assertEqual((one.sums, other.sums), before)

    def test_many_sums(self):
        drops = [(day, place) for day in range(4) for place in range(3)]
        told = [(sum(at in lot for at in range(5)), tuple(drop for at, drop in enumerate(drops) if at not in lot))
                for lot in [[at for at in range(12) if 1 << at & many] for many in range(4096)]]
        self.assertEqual(len(LeastSum(told).sums), 32)


class NeverMoreTest(unittest.TestCase):
    def test_against_each_other(self):
        choice = random.Random(144)
        seen = {}
        for _ in range(600):
            one, other = LeastSum(some_sums(choice, [A, B, C], 3)), LeastSum(some_sums(choice, [A, B, C], 3))
            never = all(one.value(rains) <= other.value(rains) for rains in all_rains([A, B, C]))
            self.assertIs(never_more(one, other), never)
            seen[never] = True
            found = cover(one, other)
            if never:
                self.assertIsInstance(found, tuple)
                self.assertIs(is_cover(one, other, found), True)
                self.assertIsNone(more_at(one, other))
                continue
            self.assertIsNone(found)
            rains = more_at(one, other)
            self.assertGreater(one.value(rains), other.value(rains))
            self.assertEqual(list(rains), sorted(rains))
            for tried in product(range(len(one.sums)), repeat=len(other.sums)):
                self.assertIs(is_cover(one, other, tried), False)
        self.assertEqual(len(seen), 2)

    def test_great_numbers(self):
        great = 10 ** 12
        one, other = LeastSum([(great, (A, B))]), LeastSum([(great, (A,)), (great + 1, ())])
        rains = more_at(one=one, other=other)
        self.assertGreater(one.value(rains), other.value(rains))
        self.assertIs(never_more(one=other, other=one), True)
        self.assertEqual(cover(one=other, other=one), (0,))
        self.assertIsNone(more_at(other, one))

    def test_covers(self):
        one, other = LeastSum([(1, (A,)), (2, ())]), LeastSum([(1, (A, B)), (2, (B,)), (3, ())])
        self.assertEqual(one.sums, [(1, (A,)), (2, ())])
        for thing in [(0, 1, 1)]:
            self.assertIs(is_cover(one, other, thing), True)
        for thing in [[0, 1, 1], (0, 1), (0, 1, 1, 1), (), (1, 1, 1), (0, 0, 1), (0, 1, 0), (0, 1, True), (False, 1, 1),
                      (0, 1, 2), (0, 1, -1), (0, 1, None), (0, 1, "1"), {0: 0, 1: 1, 2: 1}, "011", *any_values()]:
            self.assertIs(is_cover(one=one, other=other, thing=thing), False, thing)
        self.assertIs(is_cover(one, LeastSum([(2, ())]), (1,)), True)
        self.assertIs(is_cover(one, LeastSum([(2, ())]), (0,)), False)

    def test_errors(self):
        good = LeastSum([(0, ())])
        for ask, more in [(never_more, []), (cover, []), (is_cover, [None]), (more_at, [])]:
            for thing in any_values():
                if not isinstance(thing, LeastSum):
                    for two in [(thing, None), (thing, good), (good, thing)]:
                        with self.assertRaises(BadSums) as caught:
                            ask(*two, *more)
                        self.assertIsNone(caught.exception.at)


if __name__ == "__main__":
    unittest.main()
