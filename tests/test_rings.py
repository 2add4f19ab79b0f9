import unittest
from itertools import product

from tests import manners
from tests.manners import HEAP, PLACE, THING, Question, number
from tests.things import (
    HUGE, WHATEVER, SlowFails, all_heaps, heaps_up_to, no_counts, no_heaps, no_places, no_wholes, refusal, slow_closure,
)
from twoforone.errors import NoNumber
from twoforone.heaps import brings, is_heap, steps_wrong, walked
from twoforone.rings import ring_need, ring_steps, ring_worst, sweep_holds, sweeps

NEEDS = {3: 3, 4: 4, 5: 5, 6: 8, 7: 11, 8: 16}
SIZES = range(3, 9)


def ring(n):
    return (n, tuple(sorted(tuple(sorted((at, (at + 1) % n))) for at in range(n))))


def slow_sweep(n, heap, place, up):
    """What each place carries, in the sweep's order, and the steps that carry it."""
    carried = []
    steps = []
    hand = 0
    at = place
    for _ in range(n - 1):
        at = (at + (1 if up else -1)) % n
        hand = (heap[at] + hand) // 2
        carried.append(hand)
        steps += [(at, (at + (1 if up else -1)) % n)] * hand
    return tuple(carried), steps


def great_heaps(n):
    return [tuple((a * at * at + b * at + c) % 9 for at in range(n)) for a, b, c in product((1, 2), (0, 3), (0, 1, 5))]


class Need(unittest.TestCase):
    def test_each_size(self):
        for n, wanted in NEEDS.items():
            self.assertEqual(repr(ring_need(n)), repr(wanted))
            half = n // 2
            self.assertEqual(wanted, 2 ** half if n == 2 * half else 2 * (2 ** (half + 1) // 3) + 1)

    def test_worst_written_out(self):
        for n, place, told in (
            (3, 0, (0, 1, 1)), (3, 1, (1, 0, 1)), (3, 2, (1, 1, 0)), (4, 0, (0, 0, 3, 0)), (4, 3, (0, 3, 0, 0)),
            (5, 0, (0, 0, 2, 2, 0)), (5, 4, (0, 2, 2, 0, 0)), (6, 1, (0, 0, 0, 0, 7, 0)), (7, 0, (0, 0, 0, 5, 5, 0, 0)),
            (7, 3, (5, 0, 0, 0, 0, 0, 5)), (8, 5, (0, 15, 0, 0, 0, 0, 0, 0)),
        ):
            self.assertEqual(ring_worst(n, place), told)

    def test_worst_of_each_place(self):
        for n in SIZES:
            for place in range(n):
                told = ring_worst(n, place)
                self.assertIs(is_heap(ring(n), told), True)
                self.assertEqual(sum(told), NEEDS[n] - 1)
                self.assertEqual(sweeps(n, told, place), (0, 0))
                self.assertEqual(told[place], 0)
                far = [min((at - place) % n, (place - at) % n) for at in range(n) if told[at]]
                self.assertEqual(far, [n // 2] * (1 + n % 2))
                self.assertEqual(len({stones for stones in told if stones}), 1)

    def test_so_many_are_wanted(self):
        for n in (3, 4, 5):
            slow = SlowFails(ring(n), 0, 1)
            self.assertEqual(slow.need(), NEEDS[n])
            self.assertTrue(slow.fails(ring_worst(n, 0)))
        for n in (6, 7):
            for heap in all_heaps(n, NEEDS[n])[::7]:
                self.assertIsNot(ring_steps(n, heap, 0), None)

    def test_no_number_goes_ahead(self):
        for n in no_wholes(3, 8) + [2, 9, 0, True, "3"]:
            self.assertIs(type(refusal(ring_need, n)), NoNumber)
            for place in (0, 8, -1, None, True):
                self.assertIs(type(refusal(ring_worst, n, place)), NoNumber)
                for heap in ((0, 0, 0), None, (-1, 0, 0), (301, 0, 0)):
                    self.assertIs(type(refusal(sweeps, n, heap, place)), NoNumber)
                    self.assertIs(type(refusal(ring_steps, n, heap, place)), NoNumber)
                    self.assertIs(type(refusal(sweep_holds, n, heap, place, None)), NoNumber)


class Sweeps(unittest.TestCase):
    def test_written_out(self):
        for n, heap, place, told in (
            (3, (0, 0, 0), 0, (0, 0)), (3, (0, 2, 0), 0, (0, 1)), (3, (0, 0, 2), 0, (1, 0)), (3, (0, 2, 1), 0, (1, 1)),
            (3, (9, 1, 1), 0, (0, 0)), (4, (0, 8, 0, 0), 0, (1, 4)), (4, (0, 0, 0, 8), 0, (4, 1)),
            (4, (2, 0, 5, 0), 1, (1, 2)), (4, (4, 0, 0, 0), 3, (0, 2)), (5, (1, 7, 0, 3, 289), 2, (40, 74)),
        ):
            self.assertEqual(sweeps(n, heap, place), told)

    def test_against_a_slow_answer(self):
        for n in SIZES:
            for heap in heaps_up_to(n, 4 if n < 6 else 2) + great_heaps(n):
                for place in range(n):
                    wanted = tuple(slow_sweep(n, heap, place, up)[0][-1] for up in (True, False))
                    self.assertEqual(repr(sweeps(n, heap, place)), repr(wanted))

    def test_stones_at_the_place_itself_count_nothing(self):
        for n in SIZES:
            for heap in great_heaps(n):
                for place in range(n):
                    bare = heap[:place] + (0,) + heap[place + 1:]
                    self.assertEqual(sweeps(n, heap, place), sweeps(n, bare, place))


class Steps(unittest.TestCase):
    def check_steps(self, n, heap, place):
        told = ring_steps(n, heap, place)
        up, up_steps = slow_sweep(n, heap, place, True)
        down, down_steps = slow_sweep(n, heap, place, False)
        if heap[place]:
            self.assertEqual(told, [])
            self.assertIs(type(told), list)
        elif up[-1]:
            self.assertEqual(told, up_steps)
        elif down[-1]:
            self.assertEqual(told, down_steps)
        else:
            self.assertIs(told, None)
        if told is not None:
            self.assertIs(brings(ring(n), heap, place, 1, told), True)
        return told

    def test_against_a_slow_search(self):
        for n, most in ((3, 6), (4, 6), (5, 5), (6, 4)):
            for heap in heaps_up_to(n, most):
                closure = slow_closure(ring(n), heap)
                for place in range(n):
                    told = self.check_steps(n, heap, place)
                    self.assertIs(told is not None, any(other[place] for other in closure))

    def test_great_rings(self):
        for n in SIZES:
            for heap in great_heaps(n):
                for place in range(n):
                    self.check_steps(n, heap, place)
                    self.check_steps(n, heap[:place] + (0,) + heap[place + 1:], place)

    def test_written_out(self):
        self.assertEqual(ring_steps(4, (1, 9, 9, 9), 0), [])
        self.assertIs(ring_steps(4, (0, 1, 1, 1), 0), None)
        self.assertEqual(ring_steps(4, (0, 0, 4, 0), 0), [(2, 3), (2, 3), (3, 0)])
        self.assertEqual(ring_steps(4, (0, 2, 0, 0), 0), [(1, 0)])
        self.assertEqual(ring_steps(4, (0, 0, 0, 2), 0), [(3, 0)])
        # Both sweeps bring a stone: the one upwards is told.
        self.assertEqual(ring_steps(3, (0, 2, 1), 0), [(1, 2), (2, 0)])
        self.assertEqual(ring_steps(5, (3, 0, 0, 0, 2), 2), [(4, 0), (0, 1), (0, 1), (1, 2)])

    def test_half_rounded_down(self):
        told = ring_steps(4, (0, 3, 1, 1), 0)
        self.assertEqual(told, [(1, 2), (2, 3), (3, 0)])
        self.assertIs(steps_wrong(ring(4), (0, 3, 1, 1), told), None)
        self.assertEqual(walked(ring(4), (0, 3, 1, 1), told)[-1], (1, 1, 0, 0))


class SweepHolds(unittest.TestCase):
    def slow_holds(self, n, heap, place, paper):
        if heap[place]:
            return False
        for numbers, sign in zip(paper, (1, -1)):
            hand = 0
            for at, number_there in enumerate(numbers):
                if heap[(place + sign * (at + 1)) % n] + hand > 2 * number_there + 1:
                    return False
                hand = number_there
            if hand:
                return False
        return True

    def right_paper(self, n, heap, place):
        return (slow_sweep(n, heap, place, True)[0], slow_sweep(n, heap, place, False)[0])

    def test_just_where_no_stone_can_come(self):
        for n, most in ((3, 5), (4, 5), (5, 4)):
            for heap in heaps_up_to(n, most):
                closure = slow_closure(ring(n), heap)
                for place in range(n):
                    told = sweep_holds(n, heap, place, self.right_paper(n, heap, place))
                    self.assertIs(told, not any(other[place] for other in closure))

    def test_worst_heaps(self):
        for n in SIZES:
            for place in range(n):
                heap = ring_worst(n, place)
                paper = self.right_paper(n, heap, place)
                self.assertIs(sweep_holds(n, heap, place, paper), True)
                for side in (0, 1):
                    for at in range(n - 1):
                        for more in (-1, 1):
                            row = paper[side][:at] + (paper[side][at] + more,) + paper[side][at + 1:]
                            other = (row, paper[1]) if side == 0 else (paper[0], row)
                            wanted = min(row) >= 0 and self.slow_holds(n, heap, place, other)
                            self.assertIs(sweep_holds(n, heap, place, other), wanted)

    def test_all_small_papers(self):
        rows = list(product(range(3), repeat=2))
        for heap in heaps_up_to(3, 4):
            for place in range(3):
                some = False
                for paper in product(rows, rows):
                    told = sweep_holds(3, heap, place, paper)
                    self.assertIs(told, self.slow_holds(3, heap, place, paper), (heap, place, paper))
                    some = some or told
                self.assertIs(some, not any(other[place] for other in slow_closure(ring(3), heap)))

    def test_papers_of_four_places(self):
        rows = list(product(range(3), range(3), range(2)))
        for heap in ((0, 0, 3, 0), (0, 1, 1, 1), (0, 0, 4, 0), (0, 1, 0, 1), (0, 3, 0, 0)):
            for paper in product(rows, rows):
                self.assertIs(sweep_holds(4, heap, 0, paper), self.slow_holds(4, heap, 0, paper))

    def test_a_stone_at_the_place(self):
        for n in SIZES:
            paper = ((0,) * (n - 1), (0,) * (n - 1))
            self.assertIs(sweep_holds(n, (0,) * n, 0, paper), True)
            self.assertIs(sweep_holds(n, (1,) + (0,) * (n - 1), 0, paper), False)
            self.assertIs(sweep_holds(n, (1,) + (0,) * (n - 1), 1, paper), True)

    def test_whatever_is_handed_in(self):
        good = (0, 0)
        for thing in WHATEVER:
            self.assertIs(sweep_holds(3, (0, 0, 0), 0, thing), False, thing)
        for row in no_counts(2):
            self.assertIs(sweep_holds(3, (0, 0, 0), 0, (good, row)), False, row)
            self.assertIs(sweep_holds(3, (0, 0, 0), 0, (row, good)), False, row)
        for thing in ((good,), (good, good, good), [good, good], good, (good, None), {0: good, 1: good},
                      (list(good), good),
                      ((0, False), good), (good, (False, 0)), ((0, 1), good), (good, (0, 1)), ((0, 0, 0), good)):
            self.assertIs(sweep_holds(3, (0, 0, 0), 0, thing), False, thing)
        self.assertIs(sweep_holds(3, (0, 0, 0), 0, (good, good)), True)
        self.assertIs(sweep_holds(3, (0, 0, 0), 0, ((HUGE, 0), good)), False)
        self.assertIs(sweep_holds(3, (0, 0, 0), 0, ((1, 0), good)), True)


def of_size(handed):
    return ring(handed[0])


class RingManners(manners.Manners):
    questions = (
        Question(ring_need, (number(3, 8),), [(3,), (7,), (8,)], web_of=of_size),
        Question(ring_worst, (number(3, 8), PLACE), [(3, 2), (7, 0), (8, 7)], web_of=of_size),
        Question(sweeps, (number(3, 8), HEAP, PLACE), [(3, (0, 4, 1), 2), (8, (9,) * 8, 7)], web_of=of_size),
        Question(ring_steps, (number(3, 8), HEAP, PLACE), [
            (3, (0, 4, 1), 0), (8, (9,) * 8, 7), (4, (0, 1, 1, 1), 0)], web_of=of_size),
        Question(sweep_holds, (number(3, 8), HEAP, PLACE, THING), [
            (3, (0, 1, 1), 0, ((0, 0), (0, 0))), (8, (9,) * 8, 7, None)], web_of=of_size),
    )

    def test_bad_heaps_and_places_of_each_size(self):
        for n in SIZES:
            self.assertTrue(all(not is_heap(ring(n), heap) for heap in no_heaps(ring(n))))
            for place in no_places(n):
                self.assertEqual(type(refusal(ring_worst, n, place)).__name__, "NoPlace")


if __name__ == "__main__":
    unittest.main()
