"""Promises [2], [15]: coins shared by needs."""

import random
import unittest

from tests.helper import Asking
from tranchefall.sharing import shared


class Shared(Asking, unittest.TestCase):
    def test_enough(self):
        for needs in ([], [0], [0, 0], [5], [1, 2, 3], [0, 7, 0, 2]):
            for more in (0, 1, 100, 10 ** 30):
                self.assertEqual(self.assert_own(shared, needs, sum(needs) + more), needs)

    def test_one_below(self):
        self.assertEqual(shared([3], 2), [2])
        self.assertEqual(shared([1, 1], 1), [1, 0])
        self.assertEqual(shared([1, 2, 3], 5), [1, 2, 2])
        self.assertEqual(shared([3, 2, 1], 5), [3, 2, 0])
        self.assertEqual(shared([0, 2, 0, 2], 3), [0, 2, 0, 1])

    def test_odd_coins_go_to_the_first_that_lack_one(self):
        self.assertEqual(shared([5, 5, 5], 7), [3, 2, 2])
        self.assertEqual(shared([5, 5, 5], 8), [3, 3, 2])
        self.assertEqual(shared([0, 5, 0, 5, 5], 7), [0, 3, 0, 2, 2])
        self.assertEqual(shared([1, 100, 100], 100), [1, 50, 49])
        self.assertEqual(shared([1, 1, 1, 1], 3), [1, 1, 1, 0])
        self.assertEqual(shared([7, 3], 1), [1, 0])
        self.assertEqual(shared([3, 7], 1), [1, 0])

    def test_even_coins(self):
        self.assertEqual(shared([10, 20, 30], 30), [5, 10, 15])
        self.assertEqual(shared([10, 20], 0), [0, 0])

    def test_no_need(self):
        self.assertEqual(shared([], 0), [])
        self.assertEqual(shared([], 9), [])
        self.assertEqual(shared([0, 0, 0], 0), [0, 0, 0])

    def test_great_numbers(self):
        great = 10 ** 30
        self.assertEqual(shared([great, great, great], great), [great // 3 + 1, great // 3, great // 3])
        self.assertEqual(shared([great, 1], great), [great, 0])
        self.assertEqual(shared([1, great], great), [1, great - 1])
        self.assertEqual(shared([great, great], 10 ** 30), [great // 2, great // 2])

    def test_what_always_holds(self):
        chance = random.Random(5)
        for _ in range(2000):
            needs = [chance.choice((0, 1, chance.randint(0, 9), chance.randint(0, 10 ** 30))) for _ in range(chance.randint(0, 6))]
            cash = chance.choice((chance.randint(0, 10), chance.randint(0, sum(needs) + 1), max(sum(needs) - 1, 0)))
            gets = self.assert_own(shared, needs, cash)
            self.assertEqual(sum(gets), min(cash, sum(needs)))
            whole = sum(needs)
            odd_ones = []
            for need, got in zip(needs, gets):
                self.assertLessEqual(got, need)
                even = need if cash >= whole else cash * need // whole
                self.assertIn(got - even, (0, 1))
                if need > even:
                    odd_ones.append(got - even)
            self.assertEqual(odd_ones, sorted(odd_ones, reverse=True))


if __name__ == "__main__":
    unittest.main()
