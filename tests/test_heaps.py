import unittest

from tests import manners
from tests.manners import HEAP, PLACE, STEPS, THING, WEB, Question, number
from tests.things import (
    FULL, GREAT_WEBS, HUGE, MIXED, ROW, STAR, WHATEVER, heaps_up_to, no_heaps, refusal, slow_steps, slow_stepped,
    webs_up_to,
)
from twoforone.errors import NoNumber, NoSteps
from twoforone.heaps import brings, is_heap, steps_from, steps_wrong, walked

THREE = (3, ((0, 1), (1, 2)))
ROUND = (4, ((0, 1), (0, 3), (1, 2), (2, 3)))
# No step of the row of three places, though some of them look much like one.
NO_STEPS_OF_THREE = [
    thing for thing in WHATEVER if thing not in ((0, 1), (1, 0))] + [
    (0, 2), (2, 0), (0, 0), (1, 1), (2, 3), (3, 2), (-1, 0), (0, -1), (1, HUGE), (0, 1, 0), (0, 1, 1), (1,), [0, 1],
    [1, 0], (True, 0), (0, True), (False, 1), (1, False), (True, 2), (2, True), (None, 1), (1, None), ("0", 1),
    ((0, 1),),
    (0, [1]), ([0], 1), {0: 1}, "01", "0>1",
]


class IsHeap(unittest.TestCase):
    def test_heaps(self):
        for web in [(1, ()), THREE, ROUND] + GREAT_WEBS:
            many = web[0]
            for heap in ((0,) * many, (1,) * many, (37,) * many, (300,) + (0,) * (many - 1),
                         (0,) * (many - 1) + (300,)):
                self.assertIs(is_heap(web, heap), True, heap)

    def test_three_hundred_in_all(self):
        for heap, good in (
            ((300, 0, 0), True), ((100, 100, 100), True), ((0, 299, 1), True), ((301, 0, 0), False),
            ((100, 100, 101), False), ((0, 300, 1), False), ((150, 0, 151), False), ((300, 300, 300), False),
        ):
            self.assertIs(is_heap(THREE, heap), good, heap)

    def test_small_heaps(self):
        for many in range(1, 5):
            for heap in heaps_up_to(many, 5):
                self.assertIs(is_heap((many, ()), heap), True)
                self.assertIs(is_heap((many + 1, ()), heap), False)
                self.assertIs(is_heap((many, ()), list(heap)), False)

    def test_whatever_else_is_none(self):
        for web in [(1, ()), (2, ((0, 1),)), THREE] + GREAT_WEBS:
            for thing in no_heaps(web):
                self.assertIs(is_heap(web, thing), False, thing)

    def test_a_truth_is_no_number_though_it_is_equal_to_one(self):
        self.assertIs(is_heap(THREE, (0, 1, 0)), True)
        for thing in ((False, 1, 0), (0, True, 0), (0, 1, False)):
            self.assertEqual(thing, (0, 1, 0))
            self.assertIs(is_heap(THREE, thing), False)


class StepsFrom(unittest.TestCase):
    def test_either_way_of_a_tie(self):
        self.assertEqual(steps_from(THREE, (2, 0, 0)), [(0, 1)])
        self.assertEqual(steps_from(THREE, (0, 2, 0)), [(1, 0), (1, 2)])
        self.assertEqual(steps_from(THREE, (2, 2, 2)), [(0, 1), (1, 0), (1, 2), (2, 1)])
        self.assertEqual(steps_from(STAR, (2,) * 8), [(0, at) for at in range(1, 8)] + [(at, 0) for at in range(1, 8)])

    def test_one_stone_and_two(self):
        self.assertEqual(steps_from(THREE, (1, 1, 1)), [])
        self.assertEqual(steps_from(THREE, (0, 0, 0)), [])
        self.assertEqual(steps_from(THREE, (1, 1, 2)), [(2, 1)])
        self.assertEqual(steps_from(THREE, (3, 1, 0)), [(0, 1)])
        self.assertEqual(steps_from((1, ()), (300,)), [])
        self.assertEqual(steps_from((2, ()), (9, 9)), [])

    def test_all_small_webs_and_heaps(self):
        for web in webs_up_to(4):
            for heap in heaps_up_to(web[0], 4):
                told = steps_from(web, heap)
                self.assertIs(type(told), list)
                self.assertEqual(told, slow_steps(web, heap))
                self.assertEqual(told, sorted(set(told)))
                self.assertEqual([type(step) for step in told], [tuple] * len(told))


class Walked(unittest.TestCase):
    def check_refused(self, at, heap, steps, web=THREE):
        error = refusal(walked, web, heap, steps)
        self.assertIs(type(error), NoSteps, steps)
        self.assertIs(type(error.at), int)
        self.assertEqual(error.at, at, steps)

    def test_the_heaps_behind_each_step(self):
        self.assertEqual(walked(THREE, (4, 0, 0), [(0, 1), (0, 1), (1, 2)]), [(2, 1, 0), (0, 2, 0), (0, 0, 1)])
        self.assertEqual(walked(THREE, (0, 2, 0), [(1, 0)]), [(1, 0, 0)])
        self.assertEqual(walked(THREE, (0, 5, 2), [(1, 0), (1, 0), (0, 1), (2, 1)]),
                         [(1, 3, 2), (2, 1, 2), (0, 2, 2), (0, 3, 0)])
        self.assertEqual(walked(THREE, (4, 0, 0), []), [])
        self.assertEqual(walked(THREE, (300, 0, 0), [(0, 1)] * 150)[-1], (0, 150, 0))

    def test_all_short_rows_of_steps(self):
        for web in (THREE, ROUND):
            steps = sorted(list(web[1]) + [(b, a) for a, b in web[1]])
            for heap in heaps_up_to(web[0], 4):
                for one in steps:
                    for other in steps:
                        if one[0] in [at for at in range(web[0]) if heap[at] > 1]:
                            middle = slow_stepped(heap, one)
                            if middle[other[0]] > 1:
                                last = slow_stepped(middle, other)
                                self.assertEqual(walked(web, heap, [one, other]), [middle, last])
                                self.assertIs(steps_wrong(web, heap, [one, other]), None)
                            else:
                                self.check_refused(1, heap, [one, other], web)
                                self.assertEqual(steps_wrong(web, heap, [one, other]), ("bare", 1))
                        else:
                            self.check_refused(0, heap, [one, other], web)
                            self.assertEqual(steps_wrong(web, heap, [one, other]), ("bare", 0))

    def test_what_is_no_list(self):
        for thing in WHATEVER + [((0, 1),), ((0, 1), (0, 1))]:
            if not isinstance(thing, list):
                self.check_refused(-1, (4, 0, 0), thing)

    def test_the_first_thing_that_is_no_step(self):
        for thing in NO_STEPS_OF_THREE:
            self.check_refused(0, (4, 4, 4), [thing])
            self.check_refused(2, (4, 4, 4), [(0, 1), (1, 2), thing, None])
            self.check_refused(1, (4, 4, 4), [(1, 0), thing, (2, 1)])

    def test_the_first_step_that_cannot_be_done_then(self):
        self.check_refused(0, (1, 1, 1), [(0, 1)])
        self.check_refused(1, (2, 0, 0), [(0, 1), (1, 2)])
        self.check_refused(1, (3, 0, 0), [(0, 1), (0, 1), None])
        self.check_refused(2, (4, 0, 0), [(0, 1), (0, 1), (0, 1), (1, 2)])
        self.check_refused(0, (1, 4, 1), [(2, 1), None])
        self.check_refused(0, (1, 4, 1), [None, (2, 1)])


class StepsWrong(unittest.TestCase):
    def check_wrong(self, wanted, heap, thing):
        told = steps_wrong(THREE, heap, thing)
        self.assertEqual(told, wanted, thing)
        self.assertEqual([type(told), type(told[0]), type(told[1])], [tuple, str, int])

    def test_nothing_wrong(self):
        self.assertIs(steps_wrong(THREE, (0, 0, 0), []), None)
        self.assertIs(steps_wrong(THREE, (4, 0, 0), [(0, 1), (0, 1), (1, 2)]), None)
        self.assertIs(steps_wrong(THREE, (4, 0, 0), [(0, 1), (0, 1), (1, 0)]), None)

    def test_no_list(self):
        for thing in WHATEVER + [((0, 1),), ((0, 1), (0, 1))]:
            if not isinstance(thing, list):
                self.check_wrong(("list", 0), (4, 4, 4), thing)

    def test_no_step(self):
        for thing in NO_STEPS_OF_THREE:
            self.check_wrong(("form", 0), (4, 4, 4), [thing])
            self.check_wrong(("form", 1), (4, 4, 4), [(0, 1), thing, thing])
            self.check_wrong(("form", 2), (4, 4, 4), [(0, 1), (1, 0), thing, (2, 0)])

    def test_bare(self):
        self.check_wrong(("bare", 0), (1, 1, 1), [(0, 1)])
        self.check_wrong(("bare", 1), (2, 0, 0), [(0, 1), (1, 2)])
        self.check_wrong(("bare", 1), (3, 0, 0), [(0, 1), (0, 1), None])
        self.check_wrong(("form", 0), (1, 1, 1), [(0, 2), (0, 1)])
        self.check_wrong(("bare", 0), (1, 1, 1), [(0, 1), (0, 2)])


class Brings(unittest.TestCase):
    def test_so_many_and_one_more(self):
        steps = [(0, 1), (0, 1), (0, 1)]
        for many in range(1, 4):
            self.assertIs(brings(THREE, (6, 0, 0), 1, many, steps), True)
        self.assertIs(brings(THREE, (6, 0, 0), 1, 4, steps), False)
        self.assertIs(brings(THREE, (6, 1, 0), 1, 4, steps), True)
        self.assertIs(brings(THREE, (6, 0, 0), 2, 1, steps), False)
        self.assertIs(brings(THREE, (6, 0, 0), 0, 1, steps), False)
        self.assertIs(brings(THREE, (7, 0, 0), 0, 1, steps), True)

    def test_no_step_at_all(self):
        self.assertIs(brings(THREE, (0, 2, 0), 1, 2, []), True)
        self.assertIs(brings(THREE, (0, 2, 0), 1, 3, []), False)
        self.assertIs(brings(THREE, (0, 2, 0), 0, 1, []), False)
        self.assertIs(brings((1, ()), (300,), 0, 300, []), True)

    def test_it_is_looked_at_behind_the_last_step(self):
        self.assertIs(brings(THREE, (2, 1, 0), 1, 2, [(0, 1)]), True)
        self.assertIs(brings(THREE, (2, 1, 0), 1, 2, [(0, 1), (1, 2)]), False)
        self.assertIs(brings(THREE, (0, 2, 0), 1, 1, [(1, 2)]), False)

    def test_whatever_is_handed_in(self):
        for thing in WHATEVER:
            # By what they look like: a truth is equal to a number.
            good = repr(thing) in ("[]", "[(0, 1)]", "[(1, 0)]")
            self.assertIs(brings(THREE, (4, 4, 4), 1, 1, thing), good, thing)
        for thing in NO_STEPS_OF_THREE:
            self.assertIs(brings(THREE, (4, 4, 4), 1, 1, [thing]), False)
            self.assertIs(brings(THREE, (4, 4, 4), 1, 1, [(0, 1), thing]), False)
        self.assertIs(brings(THREE, (4, 4, 4), 1, 1, ((0, 1),)), False)
        self.assertIs(brings(THREE, (1, 4, 4), 1, 1, [(0, 1)]), False)

    def test_bounds_of_the_number(self):
        for many in (1, 300):
            self.assertIs(brings(THREE, (4, 0, 0), 1, many, [(0, 1)]), many == 1)
        for many in (0, 301, True, False, "1", None):
            for thing in ([(0, 1)], [], None, [(0, 2)]):
                self.assertIs(type(refusal(brings, THREE, (4, 0, 0), 1, many, thing)), NoNumber)


class HeapManners(manners.Manners):
    questions = (
        Question(is_heap, (WEB, THING), [(THREE, (0, 1, 2)), (FULL, None), ((1, ()), (3,))]),
        Question(steps_from, (WEB, HEAP), [(THREE, (3, 2, 0)), (FULL, (2,) * 8), ((1, ()), (9,))]),
        Question(walked, (WEB, HEAP, STEPS), [
            (THREE, (4, 0, 0), [(0, 1), (0, 1), (1, 2)]), (MIXED, (2,) * 8, [(0, 5), (4, 7)]), ((1, ()), (2,), []),
        ]),
        Question(steps_wrong, (WEB, HEAP, THING), [
            (THREE, (4, 0, 0), [(0, 1), (0, 1), (1, 2)]), (ROW, (2,) * 8, [(0, 5)]), ((1, ()), (2,), [(0, 0)]),
        ]),
        Question(brings, (WEB, HEAP, PLACE, number(1, 300), THING), [
            (THREE, (4, 0, 0), 2, 1, [(0, 1), (0, 1), (1, 2)]), (FULL, (2,) * 8, 7, 300, [(0, 5)]),
        ]),
    )


if __name__ == "__main__":
    unittest.main()
