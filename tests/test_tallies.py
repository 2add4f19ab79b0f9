import unittest
from itertools import combinations, permutations, product

from tests import manners
from tests.manners import HEAP, STEPS, TALLY, THING, WEB, Question
from tests.things import (
    FULL, HUGE, MIXED, RING, ROW, WHATEVER, heaps_up_to, refusal, slow_closure, slow_stepped, slow_steps, webs_up_to,
)
from twoforone.errors import NoSteps, NoTally
from twoforone.heaps import steps_wrong, walked
from twoforone.tallies import in_order, is_tally, leaned, left_by, ring_in, tally_of

THREE = (3, ((0, 1), (1, 2)))
TRIANGLE = (3, ((0, 1), (0, 2), (1, 2)))
ROUND = (4, ((0, 1), (0, 3), (1, 2), (2, 3)))
NO_TIMES = [0, -1, 301, 302, HUGE, -HUGE, True, False, None, "1", [1], (1,), {}]


def all_steps(web):
    return sorted(list(web[1]) + [(b, a) for a, b in web[1]])


def small_tallies(web, times):
    """All tallies whose steps are done one of these numbers of times, or not at all."""
    steps = all_steps(web)
    for choice in product((0,) + times, repeat=len(steps)):
        yield tuple(step + (often,) for step, often in zip(steps, choice) if often)


def slow_left(heap, tally):
    return tuple(
        stones - 2 * sum(often for a, b, often in tally if a == place) + sum(often for a, b,
                                                                             often in tally if b == place)
        for place, stones in enumerate(heap))


def slow_has_ring(tally):
    """Whether some order of some places goes round by steps of the tally."""
    steps = {row[:2] for row in tally}
    places = sorted({row[0] for row in tally})
    return any(
        all((ring[at - 1], ring[at]) in steps for at in range(size))
        for size in range(2, len(places) + 1) for some in combinations(places, size) for ring in permutations(some))


class IsTally(unittest.TestCase):
    def test_tallies(self):
        for tally in (
            (), ((0, 1, 1),), ((1, 0, 1),), ((0, 1, 300),), ((0, 1, 2), (1, 0, 2)), ((1, 0, 5), (1, 2, 5)),
            ((0, 1, 300), (1, 0, 300), (1, 2, 300), (2, 1, 300)),
        ):
            self.assertIs(is_tally(THREE, tally), True, tally)
        for web in (THREE, TRIANGLE):
            for tally in small_tallies(web, (1,)):
                self.assertIs(is_tally(web, tally), True)
        self.assertIs(is_tally(FULL, tuple(step + (7,) for step in all_steps(FULL))), True)

    def test_rows_that_do_not_rise(self):
        rows = tuple(step + (3,) for step in all_steps(THREE))
        for order in permutations(rows):
            self.assertIs(is_tally(THREE, order), order == rows)

    def test_twice_the_same_step(self):
        for tally in (
            ((0, 1, 1), (0, 1, 1)), ((0, 1, 1), (0, 1, 2)), ((0, 1, 2), (0, 1, 1)),
            ((0, 1, 1), (1, 0, 1), (1, 0, 2)), ((0, 1, 1), (0, 1, 2), (1, 0, 1)),
        ):
            self.assertIs(is_tally(THREE, tally), False, tally)

    def test_times(self):
        for times in (1, 2, 299, 300):
            self.assertIs(is_tally(THREE, ((0, 1, times), (1, 0, 1))), True)
            self.assertIs(is_tally(THREE, ((0, 1, 1), (1, 0, times))), True)
        for times in NO_TIMES:
            self.assertIs(is_tally(THREE, ((0, 1, times),)), False, times)
            self.assertIs(is_tally(THREE, ((0, 1, times), (1, 0, 1))), False, times)
            self.assertIs(is_tally(THREE, ((0, 1, 1), (1, 0, times))), False, times)

    def test_what_is_no_step(self):
        for row in (
            (0, 2, 1), (2, 0, 1), (0, 0, 1), (0, 3, 1), (-1, 0, 1), (0, True, 1), (False, 1, 1), (None, 1, 1),
            (0, "1", 1),
            ([0], 1, 1), (0, {}, 1), (0, 1), (0, 1, 1, 1), (0, 1, 1, None), ((0, 1), 1), [0, 1, 1], (), None, 5, "011",
            {},
        ):
            self.assertIs(is_tally(THREE, (row,)), False, row)
            self.assertIs(is_tally(THREE, (row, (2, 1, 1))), False, row)
            self.assertIs(is_tally(THREE, ((0, 1, 1), row)), False, row)

    def test_whatever_else_is_none(self):
        for thing in WHATEVER + [[], [(0, 1, 1)], {(0, 1): 1}, (0, 1, 1), ((0, 1), 1)]:
            self.assertIs(is_tally(THREE, thing), repr(thing) in ("()", "((0, 1, 1),)"), thing)


class TallyOf(unittest.TestCase):
    def check_refused(self, at, steps):
        error = refusal(tally_of, THREE, steps)
        self.assertIs(type(error), NoSteps, steps)
        self.assertIs(type(error.at), int)
        self.assertEqual(error.at, at, steps)

    def test_any_order(self):
        for steps in permutations([(0, 1), (1, 0), (0, 1), (2, 1), (0, 1)]):
            self.assertEqual(tally_of(THREE, list(steps)), ((0, 1, 3), (1, 0, 1), (2, 1, 1)))
        self.assertEqual(tally_of(THREE, []), ())
        self.assertEqual(tally_of(THREE, [(1, 2)] * 300), ((1, 2, 300),))
        self.assertEqual(tally_of(THREE, [(1, 2)] * 150 + [(1, 0)] * 150), ((1, 0, 150), (1, 2, 150)))

    def test_all_tallies_come_back(self):
        for web in (THREE, TRIANGLE):
            for tally in small_tallies(web, (1, 2)):
                steps = [row[:2] for row in reversed(tally) for _ in range(row[2])]
                told = tally_of(web, steps)
                self.assertEqual(repr(told), repr(tally))
                self.assertIs(is_tally(web, told), True)

    def test_refused(self):
        for thing in WHATEVER + [((0, 1),), ((0, 1), (1, 0))]:
            if not isinstance(thing, list):
                self.check_refused(-1, thing)
        for thing in (
            (0, 2), (0, 0), (0, 3), (-1, 0), (0, True), (False, 1), [0, 1], (0, 1, 1), (0,), (), None, 1, "01", {}, [],
            ([], 1),
        ):
            self.check_refused(0, [thing])
            self.check_refused(1, [(0, 1), thing])
            self.check_refused(2, [(0, 1), (2, 1), thing, None, (0, 1)])


class LeftBy(unittest.TestCase):
    def test_below_nought_too(self):
        self.assertEqual(left_by(THREE, (4, 0, 0), ((0, 1, 2), (1, 2, 1))), (0, 0, 1))
        self.assertEqual(left_by(THREE, (0, 0, 0), ((0, 1, 2), (1, 2, 1))), (-4, 0, 1))
        self.assertEqual(left_by(THREE, (0, 0, 0), ((0, 1, 300),)), (-600, 300, 0))
        self.assertEqual(left_by(THREE, (5, 6, 7), ()), (5, 6, 7))
        self.assertEqual(left_by(THREE, (1, 1, 1), ((0, 1, 1), (1, 0, 1))), (0, 0, 1))

    def test_all_small_tallies(self):
        for web, times in ((THREE, (1, 2, 5)), (TRIANGLE, (1, 3))):
            for tally in small_tallies(web, times):
                for heap in ((0, 0, 0), (3, 1, 8)):
                    self.assertEqual(repr(left_by(web, heap, tally)), repr(slow_left(heap, tally)))

    def test_rows_of_steps_have_a_tally_that_fits(self):
        for heap in heaps_up_to(4, 4):
            for one in slow_steps(ROUND, heap):
                middle = slow_stepped(heap, one)
                self.assertEqual(left_by(ROUND, heap, tally_of(ROUND, [one])), middle)
                for other in slow_steps(ROUND, middle):
                    last = slow_stepped(middle, other)
                    self.assertEqual(left_by(ROUND, heap, tally_of(ROUND, [one, other])), last)


class RingIn(unittest.TestCase):
    def check_ring(self, web, tally):
        told = ring_in(web, tally)
        if not slow_has_ring(tally):
            self.assertIs(told, None, tally)
            return
        steps = [row[:2] for row in tally]
        self.assertIs(type(told), tuple)
        self.assertGreaterEqual(len(told), 2)
        self.assertEqual(len(set(told)), len(told))
        for at, place in enumerate(told):
            self.assertIs(type(place), int)
            self.assertIn((place, told[(at + 1) % len(told)]), steps)

    def test_rings(self):
        self.assertIn(ring_in(THREE, ((0, 1, 1), (1, 0, 1))), [(0, 1), (1, 0)])
        self.assertIn(ring_in(TRIANGLE, ((0, 1, 3), (1, 2, 1), (2, 0, 2))), [(0, 1, 2), (1, 2, 0), (2, 0, 1)])
        self.assertIs(ring_in(TRIANGLE, ((0, 1, 3), (0, 2, 2), (1, 2, 1))), None)
        self.assertIs(ring_in(THREE, ()), None)

    def test_all_small_tallies(self):
        for web in [THREE, TRIANGLE, ROUND, (4, ((0, 1), (1, 2), (1, 3), (2, 3)))]:
            for tally in small_tallies(web, (1,)):
                self.check_ring(web, tally)

    def test_great_webs(self):
        for web in (RING, FULL, ROW):
            up = tuple(step + (1,) for step in all_steps(web) if step[0] < step[1])
            self.check_ring(web, up)
            self.check_ring(web, tuple(step + (1,) for step in all_steps(web)))
        ways_in = ((0, 1, 1), (1, 2, 1), (2, 3, 1), (3, 4, 1), (4, 5, 1), (5, 6, 1), (6, 5, 1), (6, 7, 1))
        self.assertIn(ring_in(ROW, ways_in), [(5, 6), (6, 5)])
        self.check_ring(RING, ((0, 7, 1), (1, 0, 1), (2, 1, 1), (3, 2, 1), (4, 3, 1), (5, 4, 1), (6, 5, 1), (7, 6, 1)))


class Leaned(unittest.TestCase):
    def check_leaned(self, web, tally):
        told = leaned(web, tally)
        self.assertIs(is_tally(web, told), True)
        self.assertFalse(slow_has_ring(told), tally)
        times = {row[:2]: row[2] for row in tally}
        for row in told:
            self.assertLessEqual(row[2], times.get(row[:2], 0))
        bare = (0,) * web[0]
        for more, fewer in zip(slow_left(bare, told), slow_left(bare, tally)):
            self.assertGreaterEqual(more, fewer)
        return told

    def test_leaned(self):
        self.assertEqual(leaned(THREE, ()), ())
        self.assertEqual(leaned(THREE, ((0, 1, 3), (1, 0, 3))), ())
        self.assertEqual(leaned(THREE, ((0, 1, 300), (1, 0, 300), (1, 2, 300), (2, 1, 300))), ())

    def test_all_small_tallies(self):
        for web, times in ((THREE, (1, 2, 300)), (TRIANGLE, (1, 2)), (ROUND, (1,)), (ROUND, (2,))):
            for tally in small_tallies(web, times):
                self.check_leaned(web, tally)

    def test_uneven_times(self):
        for times in product((1, 2, 3), repeat=6):
            self.check_leaned(TRIANGLE, tuple(step + (often,) for step, often in zip(all_steps(TRIANGLE), times)))

    def test_great_webs(self):
        for web in (RING, FULL, MIXED, ROW):
            steps = all_steps(web)
            self.check_leaned(web, tuple(step + (1 + (7 * at * at) % 11,) for at, step in enumerate(steps)))
            self.check_leaned(web, tuple(step + (300,) for step in steps))

    def test_a_tally_without_a_ring_leaves_no_fewer(self):
        for tally in small_tallies(TRIANGLE, (1, 2)):
            if not slow_has_ring(tally):
                self.check_leaned(TRIANGLE, tally)


class InOrder(unittest.TestCase):
    def check_order(self, web, heap, tally):
        told = in_order(web, heap, tally)
        self.assertIs(type(told), list)
        self.assertIs(steps_wrong(web, heap, told), None, (heap, tally))
        self.assertEqual(tally_of(web, told), tally)
        self.assertEqual((walked(web, heap, told) or [heap])[-1], slow_left(heap, tally))

    def test_in_order(self):
        self.assertEqual(in_order(THREE, (4, 0, 0), ((0, 1, 2), (1, 2, 1))), [(0, 1), (0, 1), (1, 2)])
        self.assertEqual(in_order(THREE, (0, 0, 4), ((1, 0, 1), (2, 1, 2))), [(2, 1), (2, 1), (1, 0)])
        self.assertEqual(in_order(THREE, (1, 1, 1), ()), [])

    def test_all_small_tallies(self):
        for web, times, heaps in (
            (THREE, (1, 2), heaps_up_to(3, 5)), (TRIANGLE, (1,), heaps_up_to(3, 6)),
            (ROUND, (1,), [(2, 2, 2, 2), (4, 0, 0, 0), (0, 0, 4, 1), (1, 3, 3, 1)]),
        ):
            for tally in small_tallies(web, times):
                for heap in heaps:
                    if slow_has_ring(tally) or min(slow_left(heap, tally)) < 0:
                        self.assertIs(type(refusal(in_order, web, heap, tally)), NoTally)
                    else:
                        self.check_order(web, heap, tally)

    def test_great_webs(self):
        down = tuple((at, at - 1, 2 ** (at - 1)) for at in range(1, 8))
        self.check_order(ROW, (0,) * 7 + (128,), down)
        up = tuple((at, at + 1, 2 ** (6 - at)) for at in range(7))
        self.check_order(ROW, (128,) + (0,) * 7, up)
        self.check_order(FULL, (14, 12, 10, 8, 6, 4, 2, 0), tuple((a, b, 1) for a, b in FULL[1]))

    def test_refused(self):
        for heap, tally in (
            ((9, 9, 9), ((0, 1, 1), (1, 0, 1))), ((1, 0, 0), ((0, 1, 1),)), ((3, 0, 0), ((0, 1, 2),)),
            ((4, 0, 0), ((0, 1, 2), (1, 2, 2))), ((9, 9, 9), ((0, 1, 1), (1, 2, 1), (2, 1, 1))),
        ):
            self.assertIs(type(refusal(in_order, THREE, heap, tally)), NoTally)


class Together(unittest.TestCase):
    def test_a_tally_leaned_and_put_in_order_leaves_nowhere_fewer(self):
        for web, times in ((THREE, (1, 2)), (TRIANGLE, (1, 2)), (ROUND, (1,))):
            for tally in small_tallies(web, times):
                # The least heap that the tally fits.
                heap = tuple(max(0, -stones) for stones in slow_left((0,) * web[0], tally))
                steps = in_order(web, heap, leaned(web, tally))
                last = (walked(web, heap, steps) or [heap])[-1]
                self.assertTrue(all(a >= b for a, b in zip(last, left_by(web, heap, tally))))

    def test_rows_of_steps(self):
        for web in (TRIANGLE, ROUND):
            for heap in heaps_up_to(web[0], 5):
                for steps in self.rows_from(web, heap, 4):
                    tally = tally_of(web, steps)
                    behind = (walked(web, heap, steps) or [heap])[-1]
                    self.assertEqual(left_by(web, heap, tally), behind)
                    again = in_order(web, heap, leaned(web, tally))
                    last = (walked(web, heap, again) or [heap])[-1]
                    self.assertTrue(all(a >= b for a, b in zip(last, behind)))
                    self.assertIn(last, slow_closure(web, heap))

    def rows_from(self, web, heap, most):
        """Some rows of steps: behind each beginning every third step that can be done."""
        yield []
        for step in slow_steps(web, heap)[::3] if most else []:
            for rest in self.rows_from(web, slow_stepped(heap, step), most - 1):
                yield [step] + rest


class TallyManners(manners.Manners):
    questions = (
        Question(is_tally, (WEB, THING), [(THREE, ((0, 1, 1),)), (FULL, None), ((1, ()), ())]),
        Question(tally_of, (WEB, STEPS), [(THREE, [(1, 2), (0, 1), (1, 2)]), (FULL, [(7, 0)] * 9), ((1, ()), [])]),
        Question(left_by, (WEB, HEAP, TALLY), [(THREE, (3, 2, 0), ((0, 1, 1),)), (FULL, (2,) * 8, ((7, 0, 300),))]),
        Question(ring_in, (WEB, TALLY), [(THREE, ((0, 1, 1), (1, 0, 2))), (THREE, ((0, 1, 1),)), (FULL, ())]),
        Question(leaned, (WEB, TALLY), [(THREE, ((0, 1, 1), (1, 0, 2))), (THREE, ((0, 1, 1),)), (FULL, ())]),
        Question(
            in_order, (WEB, HEAP, TALLY),
            [(THREE, (4, 0, 0), ((0, 1, 2), (1, 2, 1))), (FULL, (2,) * 8, ()), (FULL, (2,) * 8, ((7, 0, 1),))],
            [((THREE, (9, 9, 9), ((0, 1, 1), (1, 0, 2))), TALLY), ((THREE, (1, 9, 9), ((0, 1, 1),)), TALLY)]),
    )

    def test_no_tally_of_whatever_is_none(self):
        for thing in WHATEVER:
            if repr(thing) not in ("()", "((0, 1, 1),)"):
                for error in (
                    refusal(left_by, THREE, (9, 9, 9), thing), refusal(ring_in, THREE, thing),
                    refusal(leaned, THREE, thing), refusal(in_order, THREE, (9, 9, 9), thing),
                ):
                    self.assertIs(type(error), NoTally, thing)


class WebsWithoutTies(unittest.TestCase):
    def test_no_step_no_tally(self):
        for web in webs_up_to(3):
            for a, b in product(range(web[0]), repeat=2):
                tied = (a, b) in web[1] or (b, a) in web[1]
                self.assertIs(is_tally(web, ((a, b, 1),)), tied)


if __name__ == "__main__":
    unittest.main()
