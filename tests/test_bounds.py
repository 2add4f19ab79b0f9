import unittest

from tests.things import HUGE, NO_NUMBERS, NO_PLACE_COUNTS, TUPLES, no_places
from twoforone.bounds import is_place, is_place_count, is_whole, is_whole_within


class Bounds(unittest.TestCase):
    def test_whole_numbers(self):
        for thing in (0, 1, -1, 8, HUGE, -HUGE):
            self.assertIs(is_whole(thing), True)

    def test_truths_and_other_things_are_no_whole_numbers(self):
        for thing in NO_NUMBERS + TUPLES:
            self.assertIs(is_whole(thing), False)
            self.assertIs(is_whole_within(thing, -HUGE, HUGE), False)

    def test_bounds_count_as_within(self):
        told = [thing for thing in range(-3, 12) if is_whole_within(thing, 2, 5)]
        self.assertEqual(told, [2, 3, 4, 5])

    def test_place_counts(self):
        for thing in range(1, 9):
            self.assertIs(is_place_count(thing), True)
        for thing in NO_PLACE_COUNTS:
            self.assertIs(is_place_count(thing), False)

    def test_places(self):
        for many in range(1, 9):
            for thing in range(many):
                self.assertIs(is_place(many, thing), True)
            for thing in no_places(many):
                self.assertIs(is_place(many, thing), False)


if __name__ == "__main__":
    unittest.main()
