"""Promise [3]: the refusals."""

import unittest

from tranchefall import errors
from tranchefall.errors import (
    BadRow, DealError, Misplaced, NoName, TooMany, Twice, Unfinished, Unguarded,
)

REFUSALS = [BadRow, Misplaced, Unfinished, Twice, NoName, Unguarded, TooMany]


class Refusals(unittest.TestCase):
    def test_there_are_seven_and_the_base(self):
        held = {value for value in vars(errors).values() if isinstance(value, type)}
        self.assertEqual(held, set(REFUSALS) | {DealError})
        self.assertEqual(len(set(REFUSALS)), 7)

    def test_base_stands_straight_under_value_error(self):
        self.assertEqual(DealError.__bases__, (ValueError,))

    def test_each_stands_straight_under_the_base(self):
        for refusal in REFUSALS:
            with self.subTest(refusal=refusal.__name__):
                self.assertEqual(refusal.__bases__, (DealError,))

    def test_each_is_made_by_words_and_place_and_bears_its_place(self):
        for refusal in REFUSALS + [DealError]:
            for place in (1, 2, 400, 10 ** 30):
                with self.subTest(refusal=refusal.__name__, place=place):
                    error = refusal("some words", place)
                    self.assertEqual(error.place, place)
                    self.assertIs(type(error.place), int)
                    self.assertIsInstance(error, DealError)
                    self.assertIsInstance(error, ValueError)

    def test_each_needs_both_words_and_place(self):
        for refusal in REFUSALS + [DealError]:
            with self.subTest(refusal=refusal.__name__):
                self.assertRaises(TypeError, refusal)
                self.assertRaises(TypeError, refusal, "some words")
                self.assertRaises(TypeError, refusal, "some words", 1, 2)

    def test_none_is_of_another_refusals_class(self):
        for refusal in REFUSALS:
            for other in REFUSALS:
                with self.subTest(refusal=refusal.__name__, other=other.__name__):
                    self.assertEqual(isinstance(refusal("", 1), other), refusal is other)
            self.assertNotIsInstance(DealError("", 1), refusal)

    def test_places_of_two_errors_are_their_own(self):
        first = BadRow("one", 1)
        second = BadRow("two", 2)
        second.place = 9
        self.assertEqual(first.place, 1)

    def test_each_can_be_raised_and_taken(self):
        for refusal in REFUSALS:
            for taken in (refusal, DealError, ValueError):
                with self.subTest(refusal=refusal.__name__, taken=taken.__name__):
                    with self.assertRaises(taken) as caught:
                        raise refusal("some words", 7)
                    self.assertEqual(caught.exception.place, 7)
                    self.assertIs(type(caught.exception), refusal)


if __name__ == "__main__":
    unittest.main()
