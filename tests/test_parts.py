"""Promises [2], [14]: what parts ask for."""

import random
import unittest

from tests.helper import Asking
from tranchefall.parts import asked


def parts_of(*tenths):
    return [("abcdefghij"[at], each) for at, each in enumerate(tenths)]


class Asked(Asking, unittest.TestCase):
    def assert_asked(self, tenths, came, asks, over):
        with self.subTest(tenths=tenths, came=came):
            told = self.assert_own(asked, parts_of(*tenths), came)
            self.assertEqual(told, (asks, over))
            self.assertIs(type(told), tuple)

    def test_no_parts(self):
        for came in (0, 1, 10 ** 30):
            self.assert_asked((), came, [], 0)

    def test_below_ten(self):
        self.assert_asked((3,), 100, [30], 0)
        self.assert_asked((3,), 9, [2], 0)
        self.assert_asked((3, 4), 10, [3, 4], 0)
        self.assert_asked((3, 3), 5, [2, 1], 0)
        self.assert_asked((1, 1, 1), 9, [1, 1, 0], 0)
        self.assert_asked((1, 1, 1), 3, [0, 0, 0], 0)
        self.assert_asked((1, 1, 1), 4, [1, 0, 0], 0)
        self.assert_asked((2, 5), 1, [0, 0], 0)
        self.assert_asked((9,), 1, [0], 0)

    def test_just_ten(self):
        self.assert_asked((10,), 7, [7], 0)
        self.assert_asked((5, 5), 7, [4, 3], 0)
        self.assert_asked((1, 9), 1, [1, 0], 0)
        self.assert_asked((3, 3, 4), 1, [1, 0, 0], 0)
        self.assert_asked((3, 3, 4), 11, [4, 3, 4], 0)
        self.assert_asked((1, 2, 3, 4), 19, [2, 4, 6, 7], 0)

    def test_above_ten(self):
        self.assert_asked((10, 1), 10, [10, 1], 1)
        self.assert_asked((10, 1), 1, [1, 1], 1)
        self.assert_asked((6, 5), 1, [1, 1], 1)
        self.assert_asked((6, 5), 10, [6, 5], 1)
        self.assert_asked((6, 5), 11, [7, 6], 2)
        self.assert_asked((10, 10, 10, 10, 10, 10), 9, [9] * 6, 45)
        self.assert_asked((9, 9), 3, [3, 3], 3)

    def test_nothing_came(self):
        for tenths in ((1,), (10,), (5, 5), (6, 5), (10, 10, 10)):
            self.assert_asked(tenths, 0, [0] * len(tenths), 0)

    def test_great_numbers(self):
        great = 10 ** 30
        self.assert_asked((3, 3), great, [3 * great // 10] * 2, 0)
        self.assert_asked((3, 3, 4), great + 1, [3 * great // 10 + 1, 3 * great // 10, 4 * great // 10], 0)
        self.assert_asked((10, 7), great, [great, 7 * great // 10], 7 * great // 10)

    def test_what_always_holds(self):
        chance = random.Random(14)
        for _ in range(3000):
            tenths = [chance.randint(1, chance.choice((2, 4, 10))) for _ in range(chance.randint(0, 6))]
            came = chance.choice((chance.randint(0, 30), chance.randint(0, 10 ** 30)))
            asks, over = self.assert_own(asked, parts_of(*tenths), came)
            whole = sum(tenths)
            if whole <= 10:
                self.assertEqual(over, 0)
                self.assertEqual(sum(asks), came * whole // 10)
                odd = [ask - came * each // 10 for ask, each in zip(asks, tenths)]
                self.assertTrue(set(odd) <= {0, 1})
                self.assertEqual(odd, sorted(odd, reverse=True))
            else:
                for ask, each in zip(asks, tenths):
                    self.assertTrue(came * each <= 10 * ask < came * each + 10)
                self.assertEqual(over, sum(asks) - came)
                self.assertEqual(over > 0, came > 0)


if __name__ == "__main__":
    unittest.main()
