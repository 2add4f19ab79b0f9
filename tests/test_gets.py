import unittest

from tests import manners
from tests.manners import HEAP, PLACE, THING, WEB, Question, Role, number
from tests.things import (
    BARE, CUBE, FULL, GREAT_WEBS, HUGE, MIXED, RING, ROW, STAR, WHATEVER, heaps_up_to, no_heaps, refusal, slow_closure,
    slow_distances, slow_most, webs_up_to,
)
from twoforone.errors import NoHeap, NoNumber, NoPlace, TooGreat
from twoforone.gets import closed_for, closed_holds, most_at, reach, reached
from twoforone.heaps import brings

THREE = (3, ((0, 1), (1, 2)))
TRIANGLE = (3, ((0, 1), (0, 2), (1, 2)))
FOUR = (4, ((0, 1), (1, 2), (2, 3)))
ROUND = (4, ((0, 1), (0, 3), (1, 2), (2, 3)))
PARTED = (4, ((0, 1), (2, 3)))
SMALL = list(webs_up_to(3)) + [FOUR, ROUND, PARTED, (4, ((0, 1), (0, 2), (0, 3))),
                               (4, ((0, 1), (0, 2), (0, 3), (1, 2)))]
# Heaps of twelve stones on great webs, and some of fewer.
GREAT = [
    (ROW, (0, 3, 0, 4, 0, 2, 3, 0)), (RING, (12, 0, 0, 0, 0, 0, 0, 0)), (STAR, (0, 3, 3, 3, 1, 1, 1, 0)),
    (CUBE, (0, 4, 0, 3, 0, 0, 4, 0)), (BARE, (2, 2, 2, 2, 2, 2, 0, 0)), (MIXED, (2, 0, 3, 0, 3, 0, 2, 2)),
    (FULL, (0, 5, 0, 0, 0, 3, 0, 0)),
]


class MostAt(unittest.TestCase):
    def test_written_out(self):
        for web, heap, place, told in (
            ((1, ()), (7,), 0, 7), (THREE, (0, 0, 0), 1, 0), (THREE, (4, 0, 0), 2, 1), (THREE, (3, 0, 0), 2, 0),
            (THREE, (4, 0, 0), 0, 4), (THREE, (4, 0, 5), 1, 4), (THREE, (12, 0, 0), 2, 3), (PARTED, (3, 3, 6, 0), 0, 4),
            (PARTED, (0, 0, 6, 6), 0, 0), (TRIANGLE, (3, 3, 0), 2, 2), (TRIANGLE, (3, 5, 4), 2, 7),
        ):
            self.assertEqual(most_at(web, heap, place), told)

    def test_against_a_slow_search(self):
        for web in SMALL:
            for heap in heaps_up_to(web[0], 5):
                closure = slow_closure(web, heap)
                for place in range(web[0]):
                    wanted = max(other[place] for other in closure)
                    self.assertEqual(repr(most_at(web, heap, place)), repr(wanted))

    def test_great_webs(self):
        for web, heap in GREAT:
            closure = slow_closure(web, heap)
            for place in range(8):
                self.assertEqual(most_at(web, heap, place), max(other[place] for other in closure))


class Reach(unittest.TestCase):
    def check_reach(self, web, heap, place, many, most):
        told = reach(web, heap, place, many)
        if many > most:
            self.assertIs(told, None)
        else:
            self.assertIs(type(told), list)
            self.assertIs(brings(web, heap, place, many, told), True)

    def test_against_a_slow_search(self):
        for web in SMALL:
            for heap in heaps_up_to(web[0], 5):
                for place in range(web[0]):
                    most = slow_most(web, heap, place)
                    for many in range(1, most + 3):
                        self.check_reach(web, heap, place, many, most)
                    self.assertIs(reach(web, heap, place, 300), None)

    def test_great_webs(self):
        for web, heap in GREAT:
            closure = slow_closure(web, heap)
            for place in range(8):
                most = max(other[place] for other in closure)
                for many in (1, 2, max(most, 1), most + 1):
                    self.check_reach(web, heap, place, many, most)

    def test_written_out(self):
        self.assertEqual(reach(THREE, (4, 0, 0), 2, 1), [(0, 1), (0, 1), (1, 2)])
        self.assertEqual(reach((1, ()), (3,), 0, 3), [])
        self.assertIs(reach((1, ()), (3,), 0, 4), None)


class Reached(unittest.TestCase):
    def test_written_out(self):
        for web, heap, told in (
            ((1, ()), (0,), []), ((1, ()), (1,), [0]), (THREE, (0, 0, 0), []), (THREE, (1, 0, 0), [0]),
            (THREE, (2, 0, 0), [0, 1]), (THREE, (4, 0, 0), [0, 1, 2]), (THREE, (0, 2, 0), [0, 1, 2]),
            (PARTED, (2, 0, 0, 1), [0, 1, 3]), (STAR, (0, 2, 2) + (0,) * 5, [0, 1, 2, 3, 4, 5, 6, 7]),
        ):
            self.assertEqual(reached(web, heap), told)

    def test_against_a_slow_search(self):
        cases = [(web, heap) for web in SMALL for heap in heaps_up_to(web[0], 5)] + GREAT
        for web, heap in cases:
            closure = slow_closure(web, heap)
            told = reached(web, heap)
            self.assertIs(type(told), list)
            self.assertEqual(told, [place for place in range(web[0]) if any(other[place] for other in closure)])


class TooMany(unittest.TestCase):
    def test_twelve_stones_and_more(self):
        for heap in ((12, 0, 0), (4, 4, 4), (1, 0, 11)):
            self.assertEqual(most_at(THREE, heap, 1), slow_most(THREE, heap, 1))
            self.assertIs(brings(THREE, heap, 1, 3, reach(THREE, heap, 1, 3)), True)
            self.assertEqual(reached(THREE, heap), [0, 1, 2])
            self.assertEqual(closed_for(THREE, heap, 1, 300), sorted(slow_closure(THREE, heap)))
        for heap in ((13, 0, 0), (4, 5, 4), (300, 0, 0), (100, 100, 100), (1, 1, 12)):
            for error in (
                refusal(most_at, THREE, heap, 1), refusal(reach, THREE, heap, 1, 1), refusal(reached, THREE, heap),
                refusal(closed_for, THREE, heap, 1, 1), refusal(reach, THREE, heap, 1, 300),
            ):
                self.assertIs(type(error), TooGreat)
                self.assertEqual(repr((error.many, error.most)), repr((sum(heap), 12)))

    def test_behind_every_other_refusal(self):
        heap = (13, 0, 0)
        for place in (3, -1, True, None):
            for call, rest in ((most_at, ()), (reach, (1,)), (reach, (0,)), (closed_for, (1,)), (closed_for, (301,))):
                self.assertIs(type(refusal(call, THREE, heap, place, *rest)), NoPlace)
        for many in (0, 301, True, None):
            self.assertIs(type(refusal(reach, THREE, heap, 0, many)), NoNumber)
            self.assertIs(type(refusal(closed_for, THREE, heap, 0, many)), NoNumber)
        self.assertIs(type(refusal(most_at, THREE, (301, 0, 0), 0)), NoHeap)
        self.assertIs(type(refusal(reached, THREE, (301, 0, 0))), NoHeap)


class Closed(unittest.TestCase):
    def test_all_small_webs(self):
        for web in SMALL:
            for heap in heaps_up_to(web[0], 4):
                closure = sorted(slow_closure(web, heap))
                for place in range(web[0]):
                    most = max(other[place] for other in closure)
                    for many in (1, 2, 3, most or 1, most + 1, 300):
                        told = closed_for(web, heap, place, many)
                        # Just one of both there is.
                        self.assertIs(told is None, most >= many)
                        self.assertIs(reach(web, heap, place, many) is None, most < many)
                        self.assertIs(closed_holds(web, heap, place, many, closure), most < many)
                        if told is not None:
                            self.assertIs(type(told), list)
                            self.assertEqual(repr(told), repr(closure))
                            self.assertIn(heap, told)
                            self.assertIs(closed_holds(web, heap, place, many, told), True)

    def test_great_webs(self):
        for web, heap in GREAT:
            closure = sorted(slow_closure(web, heap))
            self.assertEqual(closed_for(web, heap, 2, 300), closure)
            self.assertIs(closed_holds(web, heap, 2, 300, closure), True)
            self.assertIs(closed_holds(web, heap, 2, 300, closure[1:]), False)

    def test_with_a_heap_lacking(self):
        for web in (THREE, TRIANGLE, ROUND):
            for heap in heaps_up_to(web[0], 4):
                closure = sorted(slow_closure(web, heap))
                self.assertIs(closed_holds(web, heap, 0, 9, closure), True)
                for other in closure:
                    fewer = [each for each in closure if each != other]
                    # All but the heap itself come of a step from one that is still there.
                    self.assertIs(closed_holds(web, heap, 0, 9, fewer), False)

    def test_with_one_more_that_is_closed_too(self):
        told = closed_for(THREE, (3, 0, 0), 2, 1)
        self.assertEqual(told, [(1, 1, 0), (3, 0, 0)])
        for more, good in (
            ([(1, 0, 0)], True), ([(0, 1, 0)], True), ([(2, 0, 0), (0, 1, 0)], True), ([(2, 0, 0)], False),
            ([(0, 2, 0)], False), ([(0, 0, 1)], False), ([(1, 1, 0)], True), ([(1, 1, 0), (3, 0, 0)], True),
            ([(1, 1, 1)], False), ([(0, 2, 0), (0, 0, 1), (1, 0, 0)], False),
        ):
            self.assertIs(closed_holds(THREE, (3, 0, 0), 2, 1, told + more), good, more)
            self.assertIs(closed_holds(THREE, (3, 0, 0), 2, 1, more + told), good, more)

    def test_in_another_order_and_form(self):
        told = closed_for(THREE, (5, 0, 0), 2, 2)
        self.assertGreater(len(told), 3)
        for at in range(len(told)):
            self.assertIs(closed_holds(THREE, (5, 0, 0), 2, 2, told[at:] + told[:at]), True)
            self.assertIs(closed_holds(THREE, (5, 0, 0), 2, 2, told[:at] + [list(told[at])] + told[at + 1:]), False)
        self.assertIs(closed_holds(THREE, (5, 0, 0), 2, 2, told[::-1]), True)
        self.assertIs(closed_holds(THREE, (5, 0, 0), 2, 2, tuple(told)), False)
        self.assertIs(closed_holds(THREE, (5, 0, 0), 2, 2, {heap: True for heap in told}), False)
        self.assertIs(closed_holds(THREE, (5, 0, 0), 2, 1, told), False)

    def test_with_a_thing_that_is_no_heap(self):
        told = closed_for(THREE, (3, 0, 0), 2, 1)
        for thing in no_heaps(THREE):
            self.assertIs(closed_holds(THREE, (3, 0, 0), 2, 1, told + [thing]), False, thing)
            self.assertIs(closed_holds(THREE, (3, 0, 0), 2, 1, [thing] + told), False, thing)

    def test_whatever_is_handed_in(self):
        more = [[], None, (), [(1, 0)], [[1, 0, 0]], [(1, False, 0)], [(True, 0, 0)], [(1, 0, 0, 0)], {(1, 0, 0): 1}]
        for thing in WHATEVER + more:
            self.assertIs(closed_holds(THREE, (1, 0, 0), 2, 1, thing), False, thing)
        self.assertIs(closed_holds(THREE, (1, 0, 0), 2, 1, [(1, 0, 0)]), True)
        self.assertIs(closed_holds(THREE, (1, 0, 0), 2, 1, [(0, 0, 0)]), False)
        self.assertIs(closed_holds(THREE, (0, 0, 0), 2, 1, []), False)

    def test_more_than_twelve_stones_are_not_refused(self):
        for heap in ((13, 0, 0), (20, 3, 0), (299, 1, 0)):
            closure = sorted(slow_closure((3, ((0, 1),)), heap))
            self.assertIs(closed_holds((3, ((0, 1),)), heap, 2, 1, closure), True)
            self.assertIs(closed_holds((3, ((0, 1),)), heap, 2, 1, closure[:-1]), False)
            self.assertIs(closed_holds((3, ((0, 1),)), heap, 0, 1, closure), False)
        self.assertIs(closed_holds(BARE, (37,) * 8, 0, 38, [(37,) * 8]), True)
        self.assertIs(closed_holds(BARE, (37,) * 8, 0, 37, [(37,) * 8]), False)

    def test_bounds_of_the_number(self):
        for many in (1, 300):
            self.assertIs(closed_holds(THREE, (0, 0, 0), 0, many, [(0, 0, 0)]), True)
            self.assertEqual(closed_for(THREE, (0, 0, 0), 0, many), [(0, 0, 0)])
            self.assertIs(reach(THREE, (0, 0, 0), 0, many), None)
        for many in (0, 301, -1, True, False, HUGE, "1", None):
            self.assertIs(type(refusal(closed_holds, THREE, (0, 0, 0), 0, many, [(0, 0, 0)])), NoNumber)
            self.assertIs(type(refusal(closed_for, THREE, (0, 0, 0), 0, many)), NoNumber)
            self.assertIs(type(refusal(reach, THREE, (0, 0, 0), 0, many)), NoNumber)


class Together(unittest.TestCase):
    def test_a_stone_more_takes_nothing_away(self):
        for web in (THREE, TRIANGLE, ROUND, PARTED):
            for heap in heaps_up_to(web[0], 4):
                for place in range(web[0]):
                    most = most_at(web, heap, place)
                    for other in range(web[0]):
                        more = heap[:other] + (heap[other] + 1,) + heap[other + 1:]
                        self.assertGreaterEqual(most_at(web, more, place), most)
                        self.assertTrue(set(reached(web, heap)) <= set(reached(web, more)))

    def test_doubled_for_each_tie_on_the_way(self):
        for web in SMALL + GREAT_WEBS:
            away = slow_distances(web)
            for place in range(web[0]):
                for other in range(web[0]):
                    ties = away[place][other]
                    for stones in (1, 2, 4, 8):
                        heap = (0,) * place + (stones,) + (0,) * (web[0] - place - 1)
                        wanted = ties is not None and stones >= 2 ** ties
                        self.assertIs(other in reached(web, heap), wanted)


TOO_GREAT = Role(TooGreat, None, (("many", 13), ("most", 12)))


class GetManners(manners.Manners):
    questions = (
        Question(most_at, (WEB, HEAP, PLACE), [(THREE, (4, 0, 1), 2), (FULL, (2, 1) + (0,) * 6, 3)],
                 [((THREE, (13, 0, 0), 0), TOO_GREAT)]),
        Question(reach, (WEB, HEAP, PLACE, number(1, 300)), [(THREE, (4, 0, 0), 2, 1), (THREE, (4, 0, 0), 2, 2)],
                 [((THREE, (13, 0, 0), 0, 1), TOO_GREAT)]),
        Question(reached, (WEB, HEAP), [(THREE, (4, 0, 1)), (FULL, (2, 1) + (0,) * 6)],
                 [((THREE, (1, 0, 12)), TOO_GREAT)]),
        Question(closed_holds, (WEB, HEAP, PLACE, number(1, 300), THING), [
            (THREE, (1, 0, 0), 2, 1, [(1, 0, 0)]), (THREE, (13, 0, 0), 2, 1, [(13, 0, 0)]),
            (FULL, (1,) * 8, 0, 2, None)]),
        Question(closed_for, (WEB, HEAP, PLACE, number(1, 300)), [(THREE, (4, 0, 0), 2, 1), (THREE, (4, 0, 0), 2, 2)],
                 [((THREE, (0, 13, 0), 0, 1), TOO_GREAT)]),
    )


if __name__ == "__main__":
    unittest.main()
