import unittest
from fractions import Fraction
from itertools import product

from tests import manners
from tests.manners import HEAP, THING, WEB, Question, Role, number
from tests.things import (
    BARE, CUBE, FULL, GREAT_WEBS, HUGE, MIXED, RING, ROW, STAR, all_heaps, heaps_up_to, no_counts, no_wholes, refusal,
    slow_closure, slow_distances, webs_up_to,
)
from twoforone.errors import NoHeap, NoNumber, TooGreat
from twoforone.kinds import web_for
from twoforone.spread import first_spread, is_spread, marks_bound, row_spread, spread_need

THREE = (3, ((0, 1), (1, 2)))
PARTED = (4, ((0, 1), (2, 3)))
SMALL = list(webs_up_to(4))
SIX = [
    web_for(("row", 6)), web_for(("ring", 6)), web_for(("full", 6)), web_for(("star", 5)), (6, ()), web_for(("row", 5)),
    (6, ((0, 1), (1, 2), (3, 4), (4, 5))), (6, ((0, 5), (1, 4), (2, 3), (2, 4), (3, 5))), web_for(("ring", 5)),
]


def slow_is_spread(web, heap):
    closure = slow_closure(web, heap)
    return all(any(other[place] for other in closure) for place in range(web[0]))


def slow_first(web):
    return next(
        heap for stones in range(1, web[0] + 1) for heap in all_heaps(web[0], stones) if slow_is_spread(web, heap))


def slow_marks_bound(web, marks):
    away = slow_distances(web)
    worths = [
        sum((Fraction(mark, 2 ** ties) for mark, ties in zip(marks, row) if ties is not None),
            Fraction(0)) for row in away]
    bound = sum(marks) / max(worths)
    return -(-bound.numerator // bound.denominator)


class IsSpread(unittest.TestCase):
    def test_written_out(self):
        for web, heap, told in (
            ((1, ()), (0,), False), ((1, ()), (1,), True), (THREE, (0, 2, 0), True), (THREE, (2, 0, 0), False),
            (THREE, (4, 0, 0), True), (THREE, (1, 0, 1), False), (THREE, (1, 1, 1), True), (THREE, (0, 0, 0), False),
            (PARTED, (1, 1, 2, 0), True), (PARTED, (12, 0, 0, 0), False), (PARTED, (0, 2, 0, 2), True),
            (BARE, (1,) * 8, True),
            (BARE, (5,) + (1,) * 6 + (0,), False), (STAR, (2,) + (0,) * 7, True), (STAR, (1, 2) + (0,) * 6, True),
        ):
            self.assertIs(is_spread(web, heap), told, (web, heap))

    def test_against_a_slow_search(self):
        for web in SMALL[::2] + [THREE, PARTED]:
            for heap in heaps_up_to(web[0], 4):
                self.assertIs(is_spread(web, heap), slow_is_spread(web, heap))

    def test_twelve_stones_and_thirteen(self):
        for web in (THREE, FULL, BARE, MIXED):
            for heap in ((12,) + (0,) * (web[0] - 1), (0,) * (web[0] - 2) + (5, 7)):
                self.assertIs(is_spread(web, heap), slow_is_spread(web, heap))
            for stones in (13, 14, 300):
                for heap in ((stones,) + (0,) * (web[0] - 1), (0,) * (web[0] - 2) + (6, stones - 6)):
                    error = refusal(is_spread, web, heap)
                    self.assertIs(type(error), TooGreat)
                    self.assertEqual(repr((error.many, error.most)), repr((stones, 12)))
            self.assertIs(type(refusal(is_spread, web, (301,) + (0,) * (web[0] - 1))), NoHeap)


class FirstSpread(unittest.TestCase):
    def test_written_out(self):
        for web, told in (
            ((1, ()), (1,)), ((2, ()), (1, 1)), ((2, ((0, 1),)), (0, 2)), (THREE, (0, 2, 0)), (PARTED, (0, 2, 0, 2)),
            ((6, ()), (1,) * 6), (web_for(("full", 6)), (0, 0, 0, 0, 0, 2)), (web_for(("star", 5)), (2, 0, 0, 0, 0, 0)),
            (web_for(("row", 6)), (0, 2, 0, 0, 2, 0)),
        ):
            self.assertEqual(first_spread(web), told)
            self.assertEqual(spread_need(web), sum(told))

    def test_against_a_slow_search(self):
        for web in SMALL + SIX:
            wanted = slow_first(web)
            self.assertEqual(repr(first_spread(web)), repr(wanted))
            self.assertEqual(repr(spread_need(web)), repr(sum(wanted)))

    def test_six_places_and_seven(self):
        for web in [web_for(("row", 7)), web_for(("ring", 7)), (7, ())] + GREAT_WEBS:
            for call in (first_spread, spread_need):
                error = refusal(call, web)
                self.assertIs(type(error), TooGreat)
                self.assertEqual(repr((error.many, error.most)), repr((web[0], 6)))


class MarksBound(unittest.TestCase):
    def test_written_out(self):
        for web, marks, told in (
            ((1, ()), (1,), 1), ((1, ()), (HUGE,), 1), ((2, ()), (1, 1), 2), ((2, ()), (3, 1), 2),
            ((2, ((0, 1),)), (1, 1), 2),
            (THREE, (1, 0, 0), 1), (THREE, (1, 1, 1), 2), (THREE, (1, 0, 1), 2), (PARTED, (1, 1, 1, 1), 3),
            (BARE, (1,) * 8, 8),
            (BARE, (0, 0, 0, 1, 0, 0, 0, 0), 1), (ROW, (1, 0, 0, 1, 0, 0, 0, 1), 3), (PARTED, (1, 0, 0, 0), 1),
        ):
            self.assertEqual(repr(marks_bound(web, marks)), repr(told), (web, marks))

    def test_rounded_up_against_a_slow_answer(self):
        for web in list(webs_up_to(3)) + [PARTED, web_for(("ring", 4)), web_for(("row", 4))]:
            for marks in product(range(4), repeat=web[0]):
                wanted = slow_marks_bound(web, marks) if any(marks) else None
                self.assertEqual(repr(marks_bound(web, marks)), repr(wanted), (web, marks))

    def test_great_webs(self):
        for web in GREAT_WEBS:
            for marks in (
                (1,) * 8, (1, 0, 0, 1, 0, 0, 1, 0), tuple(range(8)), (HUGE, 1, 0, 7, HUGE, 0, 0, 5),
                (301, 400, 0, 0, 0, 0, 0, 1),
            ):
                self.assertEqual(marks_bound(web, marks), slow_marks_bound(web, marks))

    def test_no_spread_heap_has_fewer_stones(self):
        for web in SMALL:
            wanted = spread_need(web)
            for marks in product(range(3), repeat=web[0]):
                if any(marks):
                    self.assertLessEqual(marks_bound(web, marks), wanted)

    def test_what_is_no_marks(self):
        for web in [(1, ()), (2, ()), THREE, PARTED] + GREAT_WEBS:
            self.assertIs(marks_bound(web, (0,) * web[0]), None)
            for thing in no_counts(web[0]):
                self.assertIs(marks_bound(web, thing), None, thing)
        for thing in ((0, 0, 0), (1, 1), (1, 1, 1, 1), (True, 1, 1), (1, 0, False), [1, 1, 1], None, (1, 1, -1),
                      (2, -1, 0)):
            self.assertIs(marks_bound(THREE, thing), None, thing)


class RowSpread(unittest.TestCase):
    def test_written_out(self):
        told = [row_spread(n) for n in range(1, 9)]
        self.assertEqual(told, [
            (1,), (1, 1), (0, 2, 0), (0, 2, 0, 1), (0, 2, 0, 1, 1), (0, 2, 0, 0, 2, 0), (0, 2, 0, 0, 2, 0, 1),
            (0, 2, 0, 0, 2, 0, 1, 1)])
        self.assertEqual([type(heap) for heap in told], [tuple] * 8)

    def test_as_a_row_and_as_a_ring(self):
        for n in range(1, 9):
            heap = row_spread(n)
            self.assertEqual(sum(heap), (2 * n + 2) // 3)
            self.assertIs(is_spread(web_for(("row", n)), heap), True)
            if n >= 3:
                self.assertIs(is_spread(web_for(("ring", n)), heap), True)

    def test_none_has_fewer(self):
        for n in range(1, 7):
            self.assertEqual(spread_need(web_for(("row", n))), (2 * n + 2) // 3)
            if n >= 3:
                self.assertEqual(spread_need(web_for(("ring", n))), (2 * n + 2) // 3)
        for n in (7, 8):
            for heap in all_heaps(n, (2 * n + 2) // 3 - 1):
                self.assertIs(is_spread(web_for(("ring", n)), heap), False)

    def test_refused(self):
        for n in no_wholes(1, 8):
            self.assertIs(type(refusal(row_spread, n)), NoNumber)


def too_great(many, most):
    return Role(TooGreat, None, (("many", many), ("most", most)))


class SpreadManners(manners.Manners):
    questions = (
        Question(is_spread, (WEB, HEAP), [(THREE, (0, 2, 0)), (FULL, (1,) * 8), ((1, ()), (0,))],
                 [((THREE, (13, 0, 0)), too_great(13, 12)), ((RING, (3,) * 8), too_great(24, 12))]),
        Question(spread_need, (WEB,), [(THREE,), (PARTED,), ((1, ()),)], [((CUBE,), too_great(8, 6))]),
        Question(first_spread, (WEB,), [(THREE,), (PARTED,), ((1, ()),)], [((CUBE,), too_great(8, 6))]),
        Question(marks_bound, (WEB, THING), [(THREE, (1, 0, 1)), (FULL, None), (BARE, (1,) * 8)]),
        Question(row_spread, (number(1, 8),), [(1,), (8,)], web_of=lambda handed: None),
    )


if __name__ == "__main__":
    unittest.main()
