import unittest
from itertools import product

from tests import manners
from tests.manners import HEAP, PLACE, THING, WEB, Question, Role, number
from tests.things import (
    BARE, CUBE, FULL, HUGE, MIXED, RING, ROW, STAR, TURNED, SlowFails, all_heaps, heaps_up_to, no_counts, refusal,
    slow_closure, slow_distances, slow_most, slow_neighbours, webs_up_to,
)
from twoforone.carries import carries, carry_holds, tree_steps
from twoforone.errors import NoNumber, NoPlace, NotTree
from twoforone.heaps import brings, steps_wrong, walked
from twoforone.trees import heights, tree_need, tree_worst, ways

ONE = (1, ())
TWO = (2, ((0, 1),))
THREE = (3, ((0, 1), (1, 2)))
FOUR = (4, ((0, 1), (1, 2), (2, 3)))
FORK = (5, ((0, 1), (1, 2), (1, 3), (3, 4)))
BUSH = (8, ((0, 1), (0, 2), (1, 3), (1, 4), (2, 5), (2, 6), (4, 7)))
BROOM = (8, ((0, 6), (1, 6), (2, 6), (3, 6), (3, 7), (4, 7), (5, 7)))
TREES = [web for web in webs_up_to(5) if len(web[1]) == web[0] - 1 and None not in slow_distances(web)[0]]
SMALL_TREES = [web for web in TREES if web[0] <= 4]
GREAT_TREES = [ROW, STAR, TURNED, BUSH, BROOM, (6, ((0, 5), (1, 5), (2, 4), (3, 4), (4, 5))),
               (7, ((0, 1), (0, 2), (0, 3), (1, 4), (2, 5), (3, 6)))]
NO_TREES = [(2, ()), (3, ((0, 1),)), (3, ((0, 1), (0, 2), (1, 2))), (4, ((0, 1), (0, 2), (1, 2))),
            (4, ((0, 1), (2, 3))),
            (4, ((0, 1), (0, 3), (1, 2), (2, 3))), RING, CUBE, FULL, BARE, MIXED]
NOT_TREE = Role(NotTree, None)


def slow_height(web, place, inner):
    return max([1 + slow_height(web, other, place) for other in slow_neighbours(web, place) if other != inner],
               default=0)


def slow_heights(web, root):
    away = slow_distances(web)[root]
    inner = [
        next((other for other in slow_neighbours(web, place) if away[other] < away[place]), None)
        for place in range(web[0])]
    return tuple(slow_height(web, place, inner[place]) for place in range(web[0]))


def slow_ways(web, place, inner=None, begun=None):
    """Ways as the document tells them: what was begun goes on with the main one, each other one begins anew."""
    outer = [other for other in slow_neighbours(web, place) if other != inner]
    outer.sort(key=lambda other: (-slow_height(web, other, place), other))
    if not outer:
        return [begun] if begun else []
    found = slow_ways(web, outer[0], place, (begun or (place,)) + (outer[0],))
    for other in outer[1:]:
        found += slow_ways(web, other, place, (place, other))
    return sorted(found, key=lambda way: (-len(way), way))


def slow_tree_need(web, root, times):
    lengths = [len(way) - 1 for way in slow_ways(web, root)] or [0]
    return times * 2 ** lengths[0] + sum(2 ** length - 1 for length in lengths[1:])


def slow_carries(web, heap, root):
    def carried(place, inner):
        stones = heap[place] + sum(carried(other, place) for other in slow_neighbours(web, place) if other != inner)
        return stones if inner is None else stones // 2

    away = slow_distances(web)[root]
    told = []
    for place in range(web[0]):
        nearer = [other for other in slow_neighbours(web, place) if away[other] < away[place]]
        told.append(carried(place, nearer[0] if nearer else None))
    return tuple(told)


class Heights(unittest.TestCase):
    def test_written_out(self):
        for web, root, told in (
            (ONE, 0, (0,)), (TWO, 0, (1, 0)), (TWO, 1, (0, 1)), (THREE, 0, (2, 1, 0)), (THREE, 1, (0, 1, 0)),
            (THREE, 2, (0, 1, 2)), (FORK, 0, (3, 2, 0, 1, 0)), (FORK, 2, (0, 2, 3, 1, 0)), (FORK, 4, (0, 1, 0, 2, 3)),
            (ROW, 0, (7, 6, 5, 4, 3, 2, 1, 0)), (ROW, 3, (0, 1, 2, 4, 3, 2, 1, 0)), (STAR, 0, (1, 0, 0, 0, 0, 0, 0, 0)),
            (STAR, 7, (1, 0, 0, 0, 0, 0, 0, 2)), (BUSH, 0, (3, 2, 1, 0, 1, 0, 0, 0)),
        ):
            self.assertEqual(heights(web, root), told)

    def test_each_root_of_many_trees(self):
        for web in TREES + GREAT_TREES:
            for root in range(web[0]):
                self.assertEqual(repr(heights(web, root)), repr(slow_heights(web, root)))

    def test_no_trees(self):
        for web in NO_TREES:
            for root in range(web[0]):
                self.assertIs(type(refusal(heights, web, root)), NotTree)
            for root in (-1, web[0], True, None, "0"):
                self.assertIs(type(refusal(heights, web, root)), NoPlace)


class Ways(unittest.TestCase):
    def test_written_out(self):
        for web, root, told in (
            (ONE, 0, []), (TWO, 0, [(0, 1)]), (TWO, 1, [(1, 0)]), (THREE, 0, [(0, 1, 2)]), (THREE, 1, [(1, 0), (1, 2)]),
            (FORK, 0, [(0, 1, 3, 4), (1, 2)]), (FORK, 1, [(1, 3, 4), (1, 0), (1, 2)]),
            (FORK, 4, [(4, 3, 1, 0), (1, 2)]),
            (ROW, 7, [(7, 6, 5, 4, 3, 2, 1, 0)]), (ROW, 3, [(3, 4, 5, 6, 7), (3, 2, 1, 0)]),
            (STAR, 0, [(0, at) for at in range(1, 8)]), (STAR, 3, [(3, 0, 1)] + [(0, at) for at in (2, 4, 5, 6, 7)]),
            (BUSH, 0, [(0, 1, 4, 7), (0, 2, 5), (1, 3), (2, 6)]),
            (BUSH, 5, [(5, 2, 0, 1, 4, 7), (1, 3), (2, 6)]),
            (BROOM, 7, [(7, 3, 6, 0), (6, 1), (6, 2), (7, 4), (7, 5)]),
        ):
            self.assertEqual(ways(web, root), told)

    def test_each_root_of_many_trees(self):
        for web in TREES + GREAT_TREES:
            for root in range(web[0]):
                told = ways(web, root)
                self.assertIs(type(told), list)
                self.assertEqual(repr(told), repr(slow_ways(web, root)))
                ties = [tuple(sorted(way[at:at + 2])) for way in told for at in range(len(way) - 1)]
                self.assertEqual(sorted(ties), list(web[1]))

    def test_no_trees(self):
        for web in NO_TREES:
            self.assertIs(type(refusal(ways, web, 0)), NotTree)
            self.assertIs(type(refusal(ways, web, web[0])), NoPlace)


class Need(unittest.TestCase):
    def test_written_out(self):
        for web, root, once, twice in (
            (ONE, 0, 1, 2), (TWO, 0, 2, 4), (TWO, 1, 2, 4), (THREE, 0, 4, 8), (THREE, 1, 3, 5), (FORK, 0, 9, 17),
            (FORK, 1, 6, 10), (ROW, 0, 128, 256), (ROW, 7, 128, 256), (ROW, 3, 23, 39), (STAR, 0, 8, 10),
            (STAR, 1, 9, 13),
            (BUSH, 0, 13, 21), (TURNED, 0, 128, 256),
        ):
            self.assertEqual(tree_need(web, root, 1), once)
            self.assertEqual(tree_need(web, root, 2), twice)

    def test_worst_written_out(self):
        for web, root, once, twice in (
            (ONE, 0, (0,), (1,)), (TWO, 0, (0, 1), (0, 3)), (THREE, 0, (0, 0, 3), (0, 0, 7)),
            (THREE, 1, (1, 0, 1), (3, 0, 1)), (FORK, 0, (0, 0, 1, 0, 7), (0, 0, 1, 0, 15)),
            (ROW, 3, (7, 0, 0, 0, 0, 0, 0, 15), (7, 0, 0, 0, 0, 0, 0, 31)),
            (STAR, 0, (0,) + (1,) * 7, (0, 3) + (1,) * 6),
            (STAR, 3, (0, 3, 1, 0, 1, 1, 1, 1), (0, 7, 1, 0, 1, 1, 1, 1)),
            (BUSH, 0, (0, 0, 0, 1, 0, 3, 1, 7), (0, 0, 0, 1, 0, 3, 1, 15)),
        ):
            self.assertEqual(tree_worst(web, root, 1), once)
            self.assertEqual(tree_worst(web, root, 2), twice)

    def test_each_root_of_many_trees(self):
        for web in TREES + GREAT_TREES:
            for root, times in product(range(web[0]), (1, 2)):
                wanted = slow_tree_need(web, root, times)
                self.assertEqual(repr(tree_need(web, root, times)), repr(wanted))
                told = tree_worst(web, root, times)
                self.assertEqual(sum(told), wanted - 1)
                self.assertLess(slow_carries(web, told, root)[root], times)
                stones = [0] * web[0]
                for at, way in enumerate(slow_ways(web, root)):
                    stones[way[-1]] = (times if at == 0 else 1) * 2 ** (len(way) - 1) - 1
                if web[0] == 1:
                    stones = [times - 1]
                self.assertEqual(repr(told), repr(tuple(stones)))

    def test_each_heap_of_so_many_stones_carries_as_many(self):
        for web in SMALL_TREES + [FORK]:
            for root, times in product(range(web[0]), (1, 2)):
                need = tree_need(web, root, times)
                if need > 12:
                    continue
                slow = SlowFails(web, root, times)
                self.assertTrue(slow.fails(tree_worst(web, root, times)))
                for heap in all_heaps(web[0], need):
                    self.assertGreaterEqual(carries(web, heap, root)[root], times)
                    self.assertFalse(slow.fails(heap))

    def test_no_number_goes_ahead_of_no_tree(self):
        for web in [ONE, THREE] + NO_TREES:
            for times in (0, 3, -1, True, False, "1", None, [1], (1,), HUGE, {}):
                self.assertIs(type(refusal(tree_need, web, 0, times)), NoNumber)
                self.assertIs(type(refusal(tree_worst, web, 0, times)), NoNumber)
                self.assertIs(type(refusal(tree_need, web, web[0], times)), NoPlace)
                self.assertIs(type(refusal(tree_worst, web, web[0], times)), NoPlace)


class Carries(unittest.TestCase):
    def check_steps(self, web, heap, root):
        told = tree_steps(web, heap, root)
        carried = carries(web, heap, root)
        self.assertIs(type(told), list)
        self.assertIs(steps_wrong(web, heap, told), None)
        self.assertEqual((walked(web, heap, told) or [heap])[-1][root], carried[root])
        away = slow_distances(web)[root]
        order = sorted(range(web[0]), key=lambda place: (-away[place], place))
        inner = {place: other for place in order for other in slow_neighbours(web, place) if away[other] < away[place]}
        wanted = [(place, inner[place]) for place in order if place != root for _ in range(carried[place])]
        self.assertEqual(told, wanted)

    def test_written_out(self):
        for web, heap, root, told in (
            (ONE, (5,), 0, (5,)), (THREE, (0, 0, 7), 0, (1, 1, 3)), (THREE, (0, 0, 8), 0, (2, 2, 4)),
            (THREE, (1, 1, 7), 0, (3, 2, 3)), (THREE, (3, 4, 7), 1, (1, 8, 3)), (THREE, (0, 0, 0), 1, (0, 0, 0)),
            (FORK, (0, 0, 1, 0, 7), 0, (0, 0, 0, 1, 3)), (FORK, (0, 0, 2, 0, 8), 0, (1, 1, 1, 2, 4)),
            (STAR, (1, 1, 2, 3, 4, 5, 6, 7), 0, (13, 0, 1, 1, 2, 2, 3, 3)),
        ):
            self.assertEqual(carries(web, heap, root), told)

    def test_steps_written_out(self):
        self.assertEqual(tree_steps(THREE, (0, 0, 7), 0), [(2, 1)] * 3 + [(1, 0)])
        self.assertEqual(tree_steps(THREE, (3, 0, 7), 1), [(0, 1)] + [(2, 1)] * 3)
        self.assertEqual(tree_steps(FORK, (2, 0, 2, 2, 4), 1), [(4, 3)] * 2 + [(0, 1), (2, 1)] + [(3, 1)] * 2)
        self.assertEqual(tree_steps(ONE, (9,), 0), [])
        self.assertEqual(tree_steps(THREE, (1, 1, 1), 0), [])

    def test_the_most_that_can_lie_at_the_root(self):
        for web in SMALL_TREES:
            for heap in heaps_up_to(web[0], 5):
                closure = slow_closure(web, heap)
                for root in range(web[0]):
                    told = carries(web, heap, root)
                    self.assertEqual(repr(told), repr(slow_carries(web, heap, root)))
                    self.assertEqual(told[root], max(further[root] for further in closure))
                    self.check_steps(web, heap, root)

    def test_many_trees(self):
        for web in TREES + GREAT_TREES:
            for heap in (tuple((5 * at * at + 7 * at + 3) % 41 for at in range(web[0])), (9,) * web[0], (37,) * web[0]):
                for root in range(web[0]):
                    self.assertEqual(carries(web, heap, root), slow_carries(web, heap, root))
                    self.check_steps(web, heap, root)

    def test_the_worst_heap_is_carried_to_one_stone_fewer(self):
        for web in TREES + GREAT_TREES:
            for root, times in product(range(web[0]), (1, 2)):
                self.assertEqual(carries(web, tree_worst(web, root, times), root)[root], times - 1)

    def test_tree_steps_bring(self):
        for web in GREAT_TREES:
            for root in range(web[0]):
                heap = list(tree_worst(web, root, 1))
                heap[heap.index(max(heap))] += 1
                self.assertIs(brings(web, tuple(heap), root, 1, tree_steps(web, tuple(heap), root)), True)


class CarryHolds(unittest.TestCase):
    def slow_holds(self, web, heap, root, paper):
        away = slow_distances(web)[root]
        for place in range(web[0]):
            stones = heap[place] + sum(
                paper[other] for other in slow_neighbours(web, place) if away[other] > away[place])
            if stones > (paper[place] if place == root else 2 * paper[place] + 1):
                return False
        return True

    def test_what_carries_tells_and_greater_numbers(self):
        for web in TREES + GREAT_TREES:
            for heap in ((7,) * web[0], (0,) * web[0], tuple((5 * at * at + 3) % 13 for at in range(web[0]))):
                for root in range(web[0]):
                    paper = carries(web, heap, root)
                    self.assertIs(carry_holds(web, heap, root, paper), True)
                    # Ten times as great each tie nearer to the root is always enough.
                    away = slow_distances(web)[root]
                    self.assertIs(carry_holds(web, heap, root, tuple(10 ** (9 - ties) for ties in away)), True)
                    for place in range(web[0]):
                        more = paper[:place] + (paper[place] + 2,) + paper[place + 1:]
                        wanted = self.slow_holds(web, heap, root, more)
                        self.assertIs(carry_holds(web, heap, root, more), wanted)
                    more = paper[:root] + (paper[root] + HUGE,) + paper[root + 1:]
                    self.assertIs(carry_holds(web, heap, root, more), True)

    def test_one_less_at_a_place(self):
        for web in TREES + GREAT_TREES:
            for heap in ((7,) * web[0], (8,) * web[0], tuple((5 * at * at + 3) % 13 for at in range(web[0]))):
                for root in range(web[0]):
                    paper = carries(web, heap, root)
                    for place in range(web[0]):
                        less = paper[:place] + (paper[place] - 1,) + paper[place + 1:]
                        self.assertIs(carry_holds(web, heap, root, less), False)

    def test_all_small_papers(self):
        for web in (ONE, TWO, THREE, (3, ((0, 2), (1, 2)))):
            for heap in heaps_up_to(web[0], 4):
                for root in range(web[0]):
                    least = slow_carries(web, heap, root)
                    for paper in product(range(5), repeat=web[0]):
                        told = carry_holds(web, heap, root, paper)
                        self.assertIs(told, self.slow_holds(web, heap, root, paper), (web, heap, root, paper))
                        if told:
                            self.assertTrue(all(a >= b for a, b in zip(paper, least)))
                            self.assertGreaterEqual(paper[root], slow_most(web, heap, root))

    def test_whatever_is_handed_in(self):
        for web in (ONE, THREE, STAR):
            for thing in no_counts(web[0]):
                self.assertIs(carry_holds(web, (0,) * web[0], 0, thing), False, thing)
        for thing in ((True, 0, 0), (0, False, 0), [0, 0, 0], (0, 0), (0, 0, 0, 0), (0, 0, -1), None):
            self.assertIs(carry_holds(THREE, (0, 0, 0), 0, thing), False)
        self.assertIs(carry_holds(THREE, (0, 0, 0), 0, (0, 0, 0)), True)


def not_trees(*handed):
    return [((web, *[(1,) * web[0] if part == "heap" else part for part in handed]), NOT_TREE) for web in NO_TREES]


class TreeManners(manners.Manners):
    questions = (
        Question(heights, (WEB, PLACE), [(ONE, 0), (FORK, 3), (BUSH, 7)], not_trees(0)),
        Question(ways, (WEB, PLACE), [(ONE, 0), (FORK, 3), (BUSH, 7)], not_trees(0)),
        Question(tree_need, (WEB, PLACE, number(1, 2)), [(ONE, 0, 2), (FORK, 3, 1)], not_trees(0, 1)),
        Question(tree_worst, (WEB, PLACE, number(1, 2)), [(ONE, 0, 2), (FORK, 3, 1)], not_trees(0, 1)),
        Question(carries, (WEB, HEAP, PLACE), [(ONE, (3,), 0), (FORK, (4,) * 5, 3)], not_trees("heap", 0)),
        Question(tree_steps, (WEB, HEAP, PLACE), [(ONE, (3,), 0), (FORK, (4,) * 5, 3)], not_trees("heap", 0)),
        Question(
            carry_holds, (WEB, HEAP, PLACE, THING), [(ONE, (3,), 0, (3,)), (FORK, (4,) * 5, 3, None)],
            not_trees("heap", 0, None) + not_trees("heap", 0, (9,) * 8)),
    )


if __name__ == "__main__":
    unittest.main()
