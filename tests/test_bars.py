import unittest
from fractions import Fraction
from itertools import product

from tests import manners
from tests.manners import HEAP, PLACE, THING, WEB, Question
from tests.things import (
    BARE, CUBE, FULL, GREAT_WEBS, HUGE, MIXED, RING, ROW, STAR, TURNED, heaps_up_to, no_counts, slow_closure,
    slow_distances, slow_stepped, slow_steps, webs_up_to,
)
from twoforone.bars import at_most, bar_for, far_weights, is_bar, worth_at

THREE = (3, ((0, 1), (1, 2)))
TRIANGLE = (3, ((0, 1), (0, 2), (1, 2)))
PARTED = (4, ((0, 1), (2, 3)))
FEW_WEBS = [(1, ()), (2, ()), (2, ((0, 1),)), THREE, TRIANGLE, (3, ((0, 2),)), PARTED, (4, ((0, 1), (1, 2), (2, 3))),
            (4, ((0, 1), (0, 2), (0, 3))), (4, ((0, 1), (0, 3), (1, 2), (2, 3)))]


def slow_worth(web, heap, place):
    away = slow_distances(web)[place]
    return sum((Fraction(stones, 2 ** ties) for stones, ties in zip(heap, away) if ties is not None), Fraction(0))


def slow_is_bar(web, heap, place, weights):
    even = all(weights[a] <= 2 * weights[b] and weights[b] <= 2 * weights[a] for a, b in web[1])
    return even and sum(stones * weight for stones, weight in zip(heap, weights)) < weights[place]


class Worth(unittest.TestCase):
    def test_no_stone(self):
        for web in [(1, ())] + GREAT_WEBS:
            for place in range(web[0]):
                self.assertEqual(repr(worth_at(web, (0,) * web[0], place)), "(0, 1)")
                self.assertEqual(at_most(web, (0,) * web[0], place), 0)

    def test_no_whole_number_in_lowest_terms(self):
        for heap, place, told in (
            ((1, 0, 0), 0, (1, 1)), ((1, 0, 0), 1, (1, 2)), ((1, 0, 0), 2, (1, 4)), ((2, 0, 0), 2, (1, 2)),
            ((4, 0, 0), 2, (1, 1)), ((6, 0, 0), 2, (3, 2)), ((1, 1, 1), 0, (7, 4)), ((1, 1, 1), 1, (2, 1)),
            ((5, 3, 1), 2, (15, 4)), ((0, 300, 0), 0, (150, 1)), ((299, 0, 0), 2, (299, 4)),
        ):
            self.assertEqual(worth_at(THREE, heap, place), told)
        self.assertEqual(worth_at(ROW, (1,) + (0,) * 7, 7), (1, 128))
        self.assertEqual(worth_at(ROW, (300,) + (0,) * 7, 7), (75, 32))

    def test_stones_in_another_piece_count_nothing(self):
        self.assertEqual(worth_at(PARTED, (1, 2, 100, 100), 0), (2, 1))
        self.assertEqual(worth_at(PARTED, (1, 2, 100, 101), 3), (151, 1))
        self.assertEqual(worth_at(PARTED, (0, 0, 100, 100), 0), (0, 1))
        self.assertEqual(worth_at(BARE, (9,) * 8, 4), (9, 1))

    def test_rounded_down(self):
        for heap, place, told in (
            ((1, 0, 0), 2, 0), ((3, 0, 0), 2, 0), ((4, 0, 0), 2, 1), ((7, 0, 0), 2, 1), ((8, 0, 0), 2, 2),
            ((1, 1, 0), 2, 0), ((2, 1, 0), 2, 1), ((1, 1, 1), 2, 1), ((5, 3, 1), 2, 3), ((300, 0, 0), 0, 300),
        ):
            self.assertEqual(at_most(THREE, heap, place), told)

    def test_against_a_slow_answer(self):
        for web in list(webs_up_to(4)) + GREAT_WEBS:
            for heap in heaps_up_to(web[0], 2) + [tuple((7 * at * at + 3) % 17 for at in range(web[0]))]:
                for place in range(web[0]):
                    wanted = slow_worth(web, heap, place)
                    told = worth_at(web, heap, place)
                    self.assertEqual(repr(told), repr((wanted.numerator, wanted.denominator)))
                    self.assertEqual(repr(at_most(web, heap, place)), repr(wanted.numerator // wanted.denominator))

    def test_no_step_makes_the_worth_greater(self):
        for web in FEW_WEBS:
            for heap in heaps_up_to(web[0], 4):
                for place in range(web[0]):
                    before = Fraction(*worth_at(web, heap, place))
                    for step in slow_steps(web, heap):
                        self.assertLessEqual(Fraction(*worth_at(web, slow_stepped(heap, step), place)), before)

    def test_no_more_stones_can_come(self):
        for web in FEW_WEBS:
            for heap in heaps_up_to(web[0], 5):
                closure = slow_closure(web, heap)
                for place in range(web[0]):
                    self.assertLessEqual(max(further[place] for further in closure), at_most(web, heap, place))


class IsBar(unittest.TestCase):
    def test_just_so_and_by_one_not(self):
        for heap, place, weights, good in (
            ((3, 0, 0), 2, (1, 2, 4), True), ((4, 0, 0), 2, (1, 2, 4), False), ((1, 1, 0), 2, (1, 2, 4), True),
            ((2, 1, 0), 2, (1, 2, 4), False), ((0, 0, 0), 2, (1, 2, 4), True), ((0, 0, 1), 2, (1, 2, 4), False),
            ((0, 0, 0), 1, (1, 1, 1), True), ((1, 0, 0), 1, (1, 1, 1), False), ((0, 0, 0), 1, (0, 0, 0), False),
            ((1, 0, 0), 1, (2, 3, 2), True), ((0, 1, 0), 0, (3, 2, 1), True),
            ((1, 0, 1), 1, (HUGE, 2 * HUGE + 1, HUGE), False),
        ):
            self.assertIs(is_bar(THREE, heap, place, weights), good, (heap, place, weights))

    def test_more_than_twice_either_way_about(self):
        for weights, good in (
            ((1, 2, 4), True), ((1, 2, 5), False), ((4, 2, 1), True), ((5, 2, 1), False), ((1, 3, 4), False),
            ((4, 3, 1), False), ((2, 4, 2), True), ((2, 5, 3), False), ((3, 5, 2), False), ((5, 10, 20), True),
            ((5, 11, 20), False), ((0, 1, 1), False), ((1, 1, 0), False), ((1, 0, 0), False), ((0, 0, 1), False),
        ):
            for place in range(3):
                self.assertIs(is_bar(THREE, (0, 0, 0), place, weights), good and weights[place] > 0, weights)

    def test_other_pieces_may_weigh_whatever(self):
        self.assertIs(is_bar(PARTED, (0, 0, 9, 9), 0, (1, 1, 0, 0)), True)
        self.assertIs(is_bar(PARTED, (0, 0, 9, 9), 0, (20, 10, 1, 1)), True)
        self.assertIs(is_bar(PARTED, (0, 0, 9, 9), 0, (18, 9, 1, 1)), False)
        self.assertIs(is_bar(PARTED, (0, 0, 0, 0), 0, (1, 1, 90, 45)), True)

    def test_small_weights_against_a_slow_answer(self):
        for web in ((1, ()), (2, ((0, 1),)), (2, ()), THREE, TRIANGLE, (3, ((0, 2),))):
            for weights in product(range(5), repeat=web[0]):
                for heap in heaps_up_to(web[0], 3):
                    for place in range(web[0]):
                        wanted = slow_is_bar(web, heap, place, weights)
                        self.assertIs(is_bar(web, heap, place, weights), wanted, (web, weights, heap, place))

    def test_whatever_is_handed_in(self):
        for web in [(1, ()), (2, ((0, 1),)), THREE, BARE, FULL]:
            for thing in no_counts(web[0]):
                for place in range(web[0]):
                    self.assertIs(is_bar(web, (0,) * web[0], place, thing), False, thing)

    def test_a_truth_is_no_weight(self):
        self.assertIs(is_bar(THREE, (0, 0, 0), 1, (1, 1, 1)), True)
        for thing in ((True, 1, 1), (1, True, 1), (1, 1, True), [1, 1, 1], (1, 1), (1, 1, 1, 1), (1, 1, -1), None):
            self.assertIs(is_bar(THREE, (0, 0, 0), 1, thing), False)

    def test_no_stone_comes_where_weights_bar(self):
        for web in ((2, ((0, 1),)), THREE, TRIANGLE):
            for weights in product(range(5), repeat=web[0]):
                for heap in heaps_up_to(web[0], 4):
                    for place in range(web[0]):
                        if is_bar(web, heap, place, weights):
                            self.assertEqual({further[place] for further in slow_closure(web, heap)}, {0})


class BarFor(unittest.TestCase):
    def test_far_weights(self):
        for web, place, told in (
            ((1, ()), 0, (1,)), (THREE, 0, (4, 2, 1)), (THREE, 1, (1, 2, 1)), (THREE, 2, (1, 2, 4)),
            (PARTED, 0, (2, 1, 0, 0)), (PARTED, 2, (0, 0, 2, 1)), (ROW, 0, (128, 64, 32, 16, 8, 4, 2, 1)),
            (ROW, 3, (2, 4, 8, 16, 8, 4, 2, 1)), (RING, 0, (16, 8, 4, 2, 1, 2, 4, 8)),
            (CUBE, 7, (1, 2, 2, 4, 2, 4, 4, 8)),
            (STAR, 0, (2, 1, 1, 1, 1, 1, 1, 1)), (STAR, 1, (2, 4, 1, 1, 1, 1, 1, 1)),
            (FULL, 2, (1, 1, 2, 1, 1, 1, 1, 1)),
            (BARE, 5, (0, 0, 0, 0, 0, 1, 0, 0)), (MIXED, 2, (0, 0, 1, 0, 0, 0, 0, 0)),
            (MIXED, 5, (1, 0, 0, 0, 0, 2, 1, 0)),
            (MIXED, 0, (4, 0, 0, 0, 0, 2, 1, 0)),
        ):
            self.assertEqual(far_weights(web, place), told)

    def test_far_weights_of_all_small_webs(self):
        for web in list(webs_up_to(4)) + [TURNED]:
            for place in range(web[0]):
                away = slow_distances(web)[place]
                deep = max(ties for ties in away if ties is not None)
                wanted = tuple(0 if ties is None else 2 ** (deep - ties) for ties in away)
                self.assertEqual(repr(far_weights(web, place)), repr(wanted))

    def test_just_where_the_worth_is_less_than_one(self):
        for web in FEW_WEBS + [MIXED, ROW]:
            heaps = heaps_up_to(web[0], 5 if web[0] < 8 else 1) + [(0,) * (web[0] - 1) + (many,) for many in range(130)]
            for heap in heaps:
                for place in range(web[0]):
                    told = bar_for(web, heap, place)
                    if slow_worth(web, heap, place) < 1:
                        self.assertEqual(told, far_weights(web, place))
                        self.assertIs(is_bar(web, heap, place, told), True)
                    else:
                        self.assertIs(told, None)

    def test_just_where_some_weights_bar(self):
        for web in ((2, ((0, 1),)), (2, ()), THREE, TRIANGLE, (3, ((0, 2),))):
            weights = list(product(range(6), repeat=web[0]))
            for heap in heaps_up_to(web[0], 4):
                for place in range(web[0]):
                    some = any(slow_is_bar(web, heap, place, each) for each in weights)
                    self.assertIs(bar_for(web, heap, place) is not None, some)

    def test_no_stone_comes_where_it_bars(self):
        for web in FEW_WEBS:
            for heap in heaps_up_to(web[0], 6):
                closure = slow_closure(web, heap)
                for place in range(web[0]):
                    if bar_for(web, heap, place) is not None:
                        self.assertEqual({further[place] for further in closure}, {0})


class Together(unittest.TestCase):
    def test_weights_added(self):
        for web in ((2, ((0, 1),)), THREE, TRIANGLE):
            for heap in heaps_up_to(web[0], 2):
                for place in range(web[0]):
                    bars = [each for each in product(range(5), repeat=web[0]) if is_bar(web, heap, place, each)]
                    for one in bars:
                        for other in bars[::3]:
                            both = tuple(a + b for a, b in zip(one, other))
                            self.assertIs(is_bar(web, heap, place, both), True)

    def test_weights_taken_so_many_times(self):
        for web in ((2, ((0, 1),)), THREE, TRIANGLE):
            for heap in heaps_up_to(web[0], 3):
                for place in range(web[0]):
                    for weights in product(range(5), repeat=web[0]):
                        for times in (1, 2, 3, 100, HUGE):
                            more = tuple(times * weight for weight in weights)
                            self.assertIs(is_bar(web, heap, place, more), slow_is_bar(web, heap, place, weights))


class BarManners(manners.Manners):
    questions = (
        Question(worth_at, (WEB, HEAP, PLACE), [(THREE, (5, 3, 1), 2), (FULL, (2,) * 8, 0), ((1, ()), (9,), 0)]),
        Question(at_most, (WEB, HEAP, PLACE), [(THREE, (5, 3, 1), 2), (FULL, (2,) * 8, 0), ((1, ()), (9,), 0)]),
        Question(is_bar, (WEB, HEAP, PLACE, THING), [(THREE, (1, 0, 0), 2, (1, 2, 4)), (FULL, (2,) * 8, 0, None)]),
        Question(far_weights, (WEB, PLACE), [(THREE, 2), (FULL, 7), ((1, ()), 0), (PARTED, 3)]),
        Question(bar_for, (WEB, HEAP, PLACE), [(THREE, (1, 0, 0), 2), (FULL, (2,) * 8, 0), ((1, ()), (0,), 0)]),
    )


if __name__ == "__main__":
    unittest.main()
