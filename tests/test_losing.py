"""Promises [2], [18], [20]: losses that eat the sizes of claims."""

import random
import unittest

from tests.helper import Asking, Making
from tranchefall.days import begun
from tranchefall.losing import eaten

CLAIMS = [("a", 100, 5), ("b", 50, 6), ("c", 20, 7)]


def pool_of(eat):
    return ("p", CLAIMS, [("v", 9)], list(eat), [("o", [], [("rest", "a")])], [], [])


def book_of(sizes=(100, 50, 20), owed=(5, 6, 7), runs=(1, 2, 3), lost=4):
    return (list(zip("abc", sizes)), list(zip("abc", owed)), list(zip("abc", runs)), [("v", 8)], lost)


class Eaten(Asking, unittest.TestCase):
    def assert_eaten(self, eat, loss, entries, sizes, owed, lost, book=None):
        told = self.assert_own(eaten, pool_of(eat), book_of() if book is None else book, loss)
        self.assertIs(type(told), tuple)
        self.assertEqual(told[0], entries)
        self.assertEqual(told[1], book_of(sizes, owed, lost=lost))

    def test_no_loss(self):
        self.assert_eaten("cb", 0, [(0, "eat", "c", 0, 0), (1, "eat", "b", 0, 0)], (100, 50, 20), (5, 6, 7), 4)

    def test_partly(self):
        self.assert_eaten("cb", 19, [(0, "eat", "c", 19, 19), (1, "eat", "b", 0, 0)], (100, 50, 1), (5, 6, 7), 4)

    def test_just_one_claim(self):
        self.assert_eaten("cb", 20, [(0, "eat", "c", 20, 20), (1, "eat", "b", 0, 0)], (100, 50, 0), (5, 6, 0), 4)

    def test_one_claim_and_a_coin_of_the_next(self):
        self.assert_eaten("cb", 21, [(0, "eat", "c", 21, 20), (1, "eat", "b", 1, 1)], (100, 49, 0), (5, 6, 0), 4)

    def test_wholly_and_beyond(self):
        self.assert_eaten("cb", 70, [(0, "eat", "c", 70, 20), (1, "eat", "b", 50, 50)], (100, 0, 0), (5, 0, 0), 4)
        self.assert_eaten("cb", 73, [(0, "eat", "c", 73, 20), (1, "eat", "b", 53, 50)], (100, 0, 0), (5, 0, 0), 7)

    def test_in_the_order_of_eat(self):
        self.assert_eaten("abc", 120, [(0, "eat", "a", 120, 100), (1, "eat", "b", 20, 20), (2, "eat", "c", 0, 0)],
                          (0, 30, 20), (0, 6, 7), 4)

    def test_no_eat(self):
        self.assert_eaten("", 9, [], (100, 50, 20), (5, 6, 7), 13)

    def test_a_claim_without_size_takes_nothing(self):
        self.assert_eaten("cb", 9, [(0, "eat", "c", 9, 0), (1, "eat", "b", 9, 9)], (100, 41, 0), (5, 6, 0), 4,
                          book_of((100, 50, 0), (5, 6, 0)))

    def test_every_claim_of_no_size_is_owed_nothing_then(self):
        for eat in ("", "b"):
            told = eaten(pool_of(eat), book_of((0, 50, 0)), 0)
            self.assertEqual(told[1], book_of((0, 50, 0), (0, 6, 0)))

    def test_great_numbers(self):
        great = 10 ** 30
        self.assert_eaten("ba", great, [(0, "eat", "b", great, great - 1), (1, "eat", "a", 1, 1)],
                          (great - 1, 0, 0), (great, 0, 0), great, book_of((great, great - 1, 0), (great, 6, 7), lost=great))

    def test_at_once_and_in_pieces(self):
        for seed in range(300):
            making = Making(seed)
            chance = random.Random(seed)
            pool = making.pool("p", [], 6)
            book = begun([pool])[0][0]
            book = (book[0], [(claim, chance.randint(0, 9)) for claim, _ in book[1]], book[2], book[3], 0)
            pieces = [chance.randint(0, 40) for _ in range(chance.randint(0, 5))]
            pieced = book
            for piece in pieces:
                pieced = eaten(pool, pieced, piece)[1]
            entries, whole = self.assert_own(eaten, pool, book, sum(pieces))
            self.assertEqual(pieced, whole)
            self.assertEqual([entry[2] for entry in entries], pool[3])
            self.assertEqual(sum(entry[4] for entry in entries) + whole[4], sum(pieces))
            self.assertEqual(sum(size for _, size in book[0]) - sum(size for _, size in whole[0]),
                             sum(entry[4] for entry in entries))


if __name__ == "__main__":
    unittest.main()
