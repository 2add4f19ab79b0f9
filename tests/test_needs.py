import unittest

from tests import manners
from tests.manners import PLACE, WEB, Question, Role, number
from tests.things import (
    BARE, CUBE, FULL, HUGE, MIXED, RING, ROW, STAR, TURNED, SlowFails, all_heaps, refusal, slow_distances, slow_stepped,
    slow_steps, webs_up_to,
)
from twoforone.errors import NoNumber, NoPlace, NotJoined, TooGreat
from twoforone.kinds import web_for
from twoforone.needs import fail_many, fails, need, need_all, worst
from twoforone.rings import ring_need, ring_worst
from twoforone.trees import tree_need, tree_worst
from twoforone.webs import is_tree

ONE = (1, ())
THREE = (3, ((0, 1), (1, 2)))


def is_joined(web):
    return None not in slow_distances(web)[0]


SMALL = [web for web in webs_up_to(3) if is_joined(web)]
# Of four places one web of each shape.
SHAPES = [
    (4, ((0, 1), (1, 2), (2, 3))), (4, ((0, 1), (0, 2), (0, 3))), (4, ((0, 1), (0, 3), (1, 2), (2, 3))),
    (4, ((0, 1), (0, 2), (1, 2), (2, 3))), (4, ((0, 1), (0, 2), (0, 3), (1, 2), (2, 3))), web_for(("full", 4)),
]
NOT_JOINED = [(2, ()), (3, ((0, 1),)), (4, ((0, 3), (1, 2))), (6, ((0, 1), (1, 2), (2, 3), (3, 4))), BARE, MIXED,
              (7, ())]
TOO_GREAT = [ROW, RING, CUBE, FULL, STAR, TURNED, web_for(("row", 7)), web_for(("ring", 7)), web_for(("full", 7))]


class AgainstASlowSearch(unittest.TestCase):
    def check_web(self, web, m):
        needs = []
        for place in range(web[0]):
            slow = SlowFails(web, place, m)
            wanted = slow.need()
            needs.append(wanted)
            self.assertEqual(repr(need(web, place, m)), repr(wanted))
            levels = [slow.failing(stones) for stones in range(wanted + 1)]
            for stones in range(wanted + 1):
                told = fails(web, place, m, stones)
                self.assertIs(type(told), list)
                self.assertEqual(repr(told), repr(levels[stones]))
            told = worst(web, place, m)
            self.assertIs(type(told), list)
            self.assertEqual(repr(told), repr(levels[wanted - 1]))
            self.assertEqual(repr(fail_many(web, place, m)), repr(sum(len(level) for level in levels)))
        greatest = max(needs)
        told = need_all(web, m)
        self.assertEqual(repr(told), repr((greatest, [place for place in range(web[0]) if needs[place] == greatest])))

    def test_small_webs(self):
        for web in SMALL:
            for m in (1, 2, 3):
                self.check_web(web, m)

    def test_four_places(self):
        for web in SHAPES:
            for m in (1, 2):
                self.check_web(web, m)
        self.check_web(SHAPES[-1], 3)
        self.check_web(SHAPES[2], 3)

    def test_five_and_six_places(self):
        for web in (
            web_for(("ring", 5)), web_for(("star", 4)), web_for(("full", 5)),
            (5, ((0, 1), (0, 2), (1, 2), (2, 3), (2, 4))),
            web_for(("full", 6)), (6, ((0, 1), (0, 2), (0, 3), (0, 5), (1, 4), (2, 4), (3, 4), (4, 5))),
        ):
            self.check_web(web, 1)


class Known(unittest.TestCase):
    def test_one_place(self):
        for m in (1, 2, 3):
            self.assertEqual(need(ONE, 0, m), m)
            self.assertEqual(worst(ONE, 0, m), [(m - 1,)])
            self.assertEqual(need_all(ONE, m), (m, [0]))
            self.assertEqual(fail_many(ONE, 0, m), m)
            self.assertEqual(fails(ONE, 0, m, m - 1), [(m - 1,)])
            self.assertEqual(fails(ONE, 0, m, m), [])

    def test_rows(self):
        for n in range(1, 7):
            web = web_for(("row", n))
            for m in (1, 2, 3):
                self.assertEqual(need(web, 0, m), m * 2 ** (n - 1))
                self.assertEqual(need_all(web, m), (m * 2 ** (n - 1), [0, n - 1] if n > 1 else [0]))
        self.assertEqual(worst(web_for(("row", 6)), 5, 3), [(95, 0, 0, 0, 0, 0)])
        self.assertEqual(fails(web_for(("row", 3)), 0, 1, 3), [(0, 0, 3)])
        self.assertEqual(fails(web_for(("row", 3)), 0, 1, 2), [(0, 0, 2), (0, 1, 1)])

    def test_rings(self):
        for n in range(3, 7):
            web = web_for(("ring", n))
            self.assertEqual(need_all(web, 1), (ring_need(n), list(range(n))))
            for place in range(n):
                self.assertIn(ring_worst(n, place), worst(web, place, 1))

    def test_full_webs(self):
        for n in range(2, 7):
            web = web_for(("full", n))
            for m in (1, 2, 3):
                self.assertEqual(need_all(web, m), (n + 2 * m - 2, list(range(n))))
            self.assertEqual(worst(web, 0, 1), [(0,) + (1,) * (n - 1)])

    def test_stars(self):
        for n in range(2, 6):
            web = web_for(("star", n))
            self.assertEqual(need(web, 0, 1), n + 1)
            self.assertEqual(need(web, 1, 1), n + 2)
            self.assertEqual(need_all(web, 1), (n + 2, list(range(1, n + 1))))

    def test_trees(self):
        trees = [web for web in webs_up_to(5) if is_tree(web)][::5]
        for web in trees + [(6, ((0, 1), (1, 2), (1, 3), (3, 4), (3, 5)))]:
            for place in range(web[0]):
                for times in (1, 2):
                    self.assertEqual(need(web, place, times), tree_need(web, place, times))
                    self.assertIn(tree_worst(web, place, times), worst(web, place, times))

    def test_great_numbers_of_stones(self):
        for stones in (4, 5, 96, 299, 300):
            self.assertEqual(fails(THREE, 0, 1, stones), [])
        self.assertEqual(fails(THREE, 0, 1, 0), [(0, 0, 0)])


class Refusals(unittest.TestCase):
    def asked(self, web, place, m):
        return [(fails, web, place, m, 3), (need, web, place, m), (worst, web, place, m), (fail_many, web, place, m)]

    def test_not_joined(self):
        for web in NOT_JOINED:
            for asked in self.asked(web, 0, 1) + [(need_all, web, 1)]:
                self.assertIs(type(refusal(*asked)), NotJoined)

    def test_too_great(self):
        for web in TOO_GREAT:
            for asked in self.asked(web, 0, 1) + [(need_all, web, 1)]:
                error = refusal(*asked)
                self.assertIs(type(error), TooGreat)
                self.assertEqual(repr((error.many, error.most)), repr((web[0], 6)))

    def test_no_number_goes_ahead_of_both(self):
        for web in [THREE] + NOT_JOINED + TOO_GREAT:
            for m in (0, 4, -1, True, False, HUGE, "1", None, [1], (1,)):
                for asked in self.asked(web, 0, m) + [(need_all, web, m)]:
                    self.assertIs(type(refusal(*asked)), NoNumber)
                for asked in self.asked(web, web[0], m):
                    self.assertIs(type(refusal(*asked)), NoPlace)
            for stones in (-1, 301, True, False, HUGE, "1", None, [1], (1,)):
                self.assertIs(type(refusal(fails, web, 0, 1, stones)), NoNumber)


class Together(unittest.TestCase):
    def test_at_least(self):
        for web in SMALL + SHAPES + [web_for(("ring", 6)), web_for(("row", 5)), web_for(("full", 6))]:
            for place in range(web[0]):
                farthest = max(slow_distances(web)[place])
                for m in (1, 2, 3):
                    told = need(web, place, m)
                    self.assertGreaterEqual(told, m * 2 ** farthest)
                    self.assertGreaterEqual(told, m + web[0] - 1)

    def test_with_a_tie_more_it_is_no_greater(self):
        webs = {web: [[need(web, place, m) for place in range(web[0])] for m in (1, 2)]
                for web in webs_up_to(4) if is_joined(web)}
        for web, needs in webs.items():
            for other, others in webs.items():
                if web[0] == other[0] and len(other[1]) == len(web[1]) + 1 and set(web[1]) < set(other[1]):
                    for m in (0, 1):
                        self.assertTrue(all(a <= b for a, b in zip(others[m], needs[m])))

    def test_with_a_stone_taken_away_and_behind_each_step(self):
        for web in SMALL + SHAPES:
            for place in range(web[0]):
                below = [tuple([0] * web[0])]
                for stones in range(1, need(web, place, 1)):
                    level = fails(web, place, 1, stones)
                    for heap in level:
                        self.assertIn(heap, all_heaps(web[0], stones))
                        for at in range(web[0]):
                            if heap[at]:
                                self.assertIn(heap[:at] + (heap[at] - 1,) + heap[at + 1:], below)
                        for step in slow_steps(web, heap):
                            self.assertIn(slow_stepped(heap, step), below)
                    below = level


LATE = [(web, Role(NotJoined, None)) for web in NOT_JOINED[:3] + [BARE]]
LATE += [(web, Role(TooGreat, None, (("many", web[0]), ("most", 6)))) for web in (ROW, web_for(("ring", 7)))]


def late(*rest):
    return [((web,) + rest, role) for web, role in LATE]


class NeedManners(manners.Manners):
    questions = (
        Question(fails, (WEB, PLACE, number(1, 3), number(0, 300)), [(THREE, 0, 1, 3), (ONE, 0, 3, 2)], late(0, 1, 3)),
        Question(need, (WEB, PLACE, number(1, 3)), [(THREE, 0, 1), (ONE, 0, 3)], late(0, 1)),
        Question(worst, (WEB, PLACE, number(1, 3)), [(THREE, 0, 1), (ONE, 0, 3)], late(0, 1)),
        Question(need_all, (WEB, number(1, 3)), [(THREE, 1), (ONE, 3)], late(1)),
        Question(fail_many, (WEB, PLACE, number(1, 3)), [(THREE, 0, 1), (ONE, 0, 3)], late(0, 1)),
    )


if __name__ == "__main__":
    unittest.main()
