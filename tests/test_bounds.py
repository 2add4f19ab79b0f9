import unittest

from tests.things import HUGE, NO_NUMBERS, NO_PLACE_COUNTS, TUPLES, no_counts, no_places, no_wholes, refusal
from twoforone.bounds import (
    are_counts, doubled, is_place, is_place_count, is_whole, is_whole_within, must_be_at_most, must_be_within,
)
from twoforone.errors import NoNumber, TooGreat


class Bounds(unittest.TestCase):
    def test_whole_numbers(self):
        for thing in (0, 1, -1, 8, HUGE, -HUGE):
            self.assertIs(is_whole(thing), True)

    def test_truths_and_other_things_are_no_whole_numbers(self):
        for thing in NO_NUMBERS + TUPLES:
            self.assertIs(is_whole(thing), False)
            self.assertIs(is_whole_within(thing, -HUGE, HUGE), False)

    def test_bounds_count_as_within(self):
        told = [thing for thing in range(-3, 12) if is_whole_within(thing, 2, 5)]
        self.assertEqual(told, [2, 3, 4, 5])

    def test_numbers_that_must_be_within(self):
        for thing in (2, 3, 5):
            self.assertIs(must_be_within(thing, 2, 5), None)
        for thing in no_wholes(2, 5):
            self.assertIs(type(refusal(must_be_within, thing, 2, 5)), NoNumber)

    def test_numbers_that_must_be_at_most(self):
        for many in (0, 11, 12):
            self.assertIs(must_be_at_most(many, 12), None)
        error = refusal(must_be_at_most, 13, 12)
        self.assertEqual((type(error), error.many, error.most), (TooGreat, 13, 12))

    def test_counts(self):
        for many in range(1, 9):
            for thing in ((0,) * many, (1,) * many, (HUGE,) * many):
                self.assertIs(are_counts(many, thing), True)
            for thing in no_counts(many):
                self.assertIs(are_counts(many, thing), False)

    def test_doubled(self):
        self.assertEqual([doubled(3, times) for times in range(5)], [3, 6, 12, 24, 48])

    def test_place_counts(self):
        for thing in range(1, 9):
            self.assertIs(is_place_count(thing), True)
        for thing in NO_PLACE_COUNTS:
            self.assertIs(is_place_count(thing), False)

    def test_places(self):
        for many in range(1, 9):
            for thing in range(many):
                self.assertIs(is_place(many, thing), True)
            for thing in no_places(many):
                self.assertIs(is_place(many, thing), False)


if __name__ == "__main__":
    unittest.main()
