import unittest
from fractions import Fraction
from itertools import product

from tests import manners
from tests.manners import PLACE, THING, WEB, Question, Role, number
from tests.things import (
    BARE, CUBE, FULL, HUGE, MIXED, RING, ROW, STAR, TURNED, WHATEVER, SlowFails, no_places, no_wholes, refusal,
    slow_distances, slow_neighbours, webs_up_to,
)
from twoforone.errors import NoNumber, NoPlace, NotTree
from twoforone.kinds import web_for
from twoforone.rings import ring_need
from twoforone.shows import branch_sum, is_branch, ring_show, show_bound, tree_show
from twoforone.trees import heights, tree_need

ONE = (1, ())
TWO = (2, ((0, 1),))
THREE = (3, ((0, 1), (1, 2)))
TRIANGLE = (3, ((0, 1), (0, 2), (1, 2)))
ROUND = (4, ((0, 1), (0, 3), (1, 2), (2, 3)))
FORK = (5, ((0, 1), (1, 2), (1, 3), (3, 4)))
BUSH = (8, ((0, 1), (0, 2), (1, 3), (1, 4), (2, 5), (2, 6), (4, 7)))
TREES = [web for web in webs_up_to(5) if len(web[1]) == web[0] - 1 and None not in slow_distances(web)[0]]
TREES += [ROW, STAR, TURNED, BUSH]


def slow_is_branch(web, root, rows):
    """Of a list of tuples of three whole numbers."""
    for at, (place, inner, weight) in enumerate(rows):
        ahead = {row[0]: row[2] for row in rows[:at]}
        if place == root or place in ahead or tuple(sorted((place, inner))) not in web[1] or weight < 1:
            return False
        if inner != root and (inner not in ahead or 2 * weight > ahead[inner]):
            return False
    return len(rows) > 0


def some_branches(web, root, most):
    """All branches with weights up to most."""
    def further(rows):
        ahead = {row[0]: row[2] for row in rows}
        for place in range(web[0]):
            if place != root and place not in ahead:
                for inner in slow_neighbours(web, place):
                    if inner == root or inner in ahead:
                        for weight in range(1, (most if inner == root else ahead[inner] // 2) + 1):
                            yield rows + [(place, inner, weight)]

    rim = list(further([]))
    found = list(rim)
    while rim:
        rim = [longer for rows in rim for longer in further(rows)]
        found += rim
    return found


def slow_bound(web, root, show):
    """Of a list of good shares and branches."""
    for place in range(web[0]):
        weight = sum(Fraction(*share) * row[2] for share, branch in show for row in branch if row[0] == place)
        if place != root and weight < 1:
            return None
    total = sum((Fraction(*share) * row[2] for share, branch in show for row in branch), Fraction(0))
    return total.numerator // total.denominator


class IsBranch(unittest.TestCase):
    def test_branches(self):
        for web, root, rows in (
            (TWO, 0, [(1, 0, 1)]), (TWO, 1, [(0, 1, HUGE)]), (THREE, 0, [(1, 0, 2), (2, 1, 1)]),
            (THREE, 0, [(1, 0, 1)]),
            (THREE, 0, [(1, 0, 5), (2, 1, 2)]), (THREE, 1, [(0, 1, 1), (2, 1, 9)]), (THREE, 1, [(2, 1, 9), (0, 1, 1)]),
            (TRIANGLE, 0, [(1, 0, 2), (2, 1, 1)]), (TRIANGLE, 0, [(1, 0, 2), (2, 0, 7)]),
            (TRIANGLE, 0, [(2, 0, 2), (1, 2, 1)]),
            (ROUND, 0, [(1, 0, 4), (2, 1, 2), (3, 2, 1)]), (ROUND, 0, [(1, 0, 4), (3, 0, 1), (2, 1, 2)]),
            (STAR, 0, [(at, 0, at) for at in range(1, 8)]),
        ):
            self.assertIs(is_branch(web, root, rows), True, rows)
            self.assertEqual(branch_sum(rows), sum(row[2] for row in rows))

    def test_no_branches(self):
        for web, root, rows in (
            (THREE, 0, []), (THREE, 0, ()), (THREE, 0, ((1, 0, 1),)), (THREE, 0, [(1, 0)]), (THREE, 0, [(1, 0, 1, 1)]),
            (THREE, 0, [[1, 0, 1]]), (THREE, 0, [(0, 1, 1)]), (THREE, 0, [(1, 0, 2), (0, 1, 1)]),
            (THREE, 0, [(2, 1, 1)]),
            (THREE, 0, [(1, 0, 2), (1, 0, 2)]), (THREE, 0, [(1, 0, 4), (2, 1, 2), (1, 2, 1)]), (THREE, 0, [(2, 0, 1)]),
            (THREE, 0, [(2, 1, 1), (1, 0, 2)]), (THREE, 0, [(1, 0, 4), (2, 0, 1)]), (THREE, 0, [(1, 0, 0)]),
            (THREE, 0, [(1, 0, -1)]), (THREE, 0, [(1, 0, True)]), (THREE, 0, [(1, 0, "1")]), (THREE, 0, [(1, 0, None)]),
            (THREE, 0, [(1, 0, 1), (2, 1, 1)]), (THREE, 0, [(1, 0, 3), (2, 1, 2)]),
            (THREE, 0, [(1, 0, 2), (2, 1, True)]),
            (THREE, 0, [(True, 0, 1)]), (THREE, 0, [(1, False, 1)]), (THREE, 0, [(3, 0, 1)]), (THREE, 0, [(1, -1, 1)]),
            (THREE, 0, [(1, 1, 1)]), (THREE, 0, [(1, 0, 2), (2, 2, 1)]), (THREE, 0, [(1, 0, 2), None]),
            (THREE, 0, [([], 0, 1)]),
            (THREE, 0, [(1, {}, 1)]), (THREE, 0, [(1, 0, [])]), (ONE, 0, [(0, 0, 1)]), (ONE, 0, []),
            (THREE, 0, {(1, 0, 1): 1}),
            (TRIANGLE, 0, [(1, 2, 1), (2, 0, 2)]), (ROUND, 0, [(1, 0, 4), (3, 1, 2)]),
            (THREE, 0, [(1, 0, 4), (2, 1, 1), (2, 1, 1)]),
        ):
            self.assertIs(is_branch(web, root, rows), False, rows)

    def test_one_more_than_half_of_inners(self):
        for weight in range(1, 12):
            for other in range(1, 12):
                told = is_branch(THREE, 0, [(1, 0, weight), (2, 1, other)])
                self.assertIs(told, 2 * other <= weight)

    def test_all_short_lists_of_small_rows(self):
        for web in (THREE, TRIANGLE):
            rows = list(product(range(3), range(3), range(3)))
            for root in range(3):
                for one in rows:
                    self.assertIs(is_branch(web, root, [one]), slow_is_branch(web, root, [one]))
                    for other in rows:
                        self.assertIs(is_branch(web, root, [one, other]), slow_is_branch(web, root, [one, other]))

    def test_many_branches(self):
        for web in (THREE, TRIANGLE, ROUND):
            for root in range(web[0]):
                for rows in some_branches(web, root, 4):
                    self.assertIs(is_branch(web, root, rows), True)

    def test_whatever_is_handed_in(self):
        for web in (ONE, TWO, THREE, FULL, BARE):
            for thing in WHATEVER:
                self.assertIs(is_branch(web, 0, thing), False, thing)
                self.assertIs(is_branch(web, 0, [thing]), False, thing)
                self.assertIs(is_branch(web, 0, [(1, 0, 1), thing]), False, thing)


class Weighs(unittest.TestCase):
    def test_no_more_than_the_branchs_sum(self):
        for web in (TWO, THREE, TRIANGLE, ROUND):
            for root in range(web[0]):
                slow = SlowFails(web, root, 1)
                heaps = [heap for stones in range(slow.need()) for heap in slow.failing(stones)]
                for rows in some_branches(web, root, 5):
                    self.assertIs(is_branch(web, root, rows), True)
                    for heap in heaps:
                        self.assertLessEqual(sum(heap[row[0]] * row[2] for row in rows), branch_sum(rows))

    def test_a_branch_of_a_web_of_several_pieces(self):
        web = (4, ((0, 1), (1, 2)))
        slow = SlowFails(web, 0, 1)
        for stones in range(6):
            for heap in slow.failing(stones):
                self.assertLessEqual(heap[1] * 2 + heap[2], branch_sum([(1, 0, 2), (2, 1, 1)]))


class ShowBound(unittest.TestCase):
    def test_written_out(self):
        for web, root, show, told in (
            (ONE, 0, [], 0), (TWO, 0, [((1, 1), [(1, 0, 1)])], 1), (TWO, 0, [((1, 1), [(1, 0, 5)])], 5),
            (TWO, 0, [((1, 5), [(1, 0, 5)])], 1), (TWO, 0, [((1, 2), [(1, 0, 1)]), ((1, 2), [(1, 0, 1)])], 1),
            (THREE, 0, [((1, 1), [(1, 0, 2), (2, 1, 1)])], 3), (THREE, 1, [((1, 1), [(0, 1, 1), (2, 1, 1)])], 2),
            (THREE, 1, [((1, 1), [(0, 1, 1)]), ((1, 1), [(2, 1, 1)])], 2),
            (THREE, 0, [((1, 2), [(1, 0, 5), (2, 1, 2)])], 3), (THREE, 0, [((3, 2), [(1, 0, 2), (2, 1, 1)])], 4),
            (TRIANGLE, 0, [((1, 3), [(1, 0, 2), (2, 1, 1)]), ((1, 3), [(2, 0, 2), (1, 2, 1)])], 2),
            (TWO, 0, [((1, HUGE), [(1, 0, HUGE)])], 1), (TWO, 0, [((HUGE, 1), [(1, 0, HUGE)])], HUGE * HUGE),
        ):
            self.assertEqual(repr(show_bound(web, root, show)), repr(told), show)

    def test_rounded_down(self):
        for top in range(1, 12):
            for bottom in range(1, 12):
                wanted = None
                if Fraction(top, bottom).numerator == top:
                    wanted = 3 * top // bottom if top >= bottom else None
                told = show_bound(THREE, 0, [((top, bottom), [(1, 0, 2), (2, 1, 1)])])
                self.assertEqual(told, wanted, (top, bottom))

    def test_weights_that_come_to_less_than_one(self):
        row = [(1, 0, 2), (2, 1, 1)]
        for show, told in (
            ([((1, 2), row)], None), ([((1, 2), row), ((1, 2), row)], 3), ([((1, 2), row), ((1, 3), row)], None),
            ([((1, 2), row), ((1, 3), row), ((1, 6), row)], 3), ([((1, 2), row), ((1, 3), row), ((1, 7), row)], None),
            ([((1, 1), [(1, 0, 9)])], None), ([((1, 1), [(1, 0, 9)]), ((1, 1), row)], 12), ([], None),
            ([((999, 1000), row)], None), ([((1000, 999), row)], 3), ([((1, HUGE), row)], None),
        ):
            self.assertEqual(show_bound(THREE, 0, show), told, show)
        self.assertIs(show_bound(THREE, 0, [((1, 2), [(1, 0, 2)])]), None)
        self.assertIs(show_bound(THREE, 1, [((1, 1), [(0, 1, 1)])]), None)

    def test_one_place_and_several_pieces(self):
        self.assertEqual(show_bound(ONE, 0, []), 0)
        for web in (TWO, (2, ()), THREE, BARE, FULL, ROW):
            for root in range(web[0]):
                self.assertIs(show_bound(web, root, []), None)
        for thing in ([((1, 1), [])], [((1, 1), [(0, 0, 1)])], [None], (), None):
            self.assertIs(show_bound(ONE, 0, thing), None)
        self.assertIs(show_bound((3, ((0, 1),)), 0, [((1, 1), [(1, 0, 1)])]), None)
        self.assertIs(show_bound((3, ((0, 1),)), 0, [((1, 1), [(1, 0, 2), (2, 1, 1)])]), None)

    def test_shares(self):
        branch = [(1, 0, 9)]
        for share in ((1, 1), (1, 2), (2, 1), (2, 3), (1, 9), (HUGE, 1)):
            self.assertEqual(show_bound(TWO, 0, [(share, branch)]), 9 * share[0] // share[1])
        for share in (
            (0, 1), (0, 2), (-1, 1), (1, -1), (-1, -1), (1, 0), (2, 2), (2, 4), (9, 3), (6, 4), (True, 1), (1, True),
            (True, True),
            (1, 1, 1), (1,), (), [1, 1], 1, None, "11", ("1", 1), (1, "1"), (1, None), (None, 1), ([], 1), (1, {}),
            {1: 1},
            (HUGE, HUGE), True, ((1, 1),),
        ):
            self.assertIs(show_bound(TWO, 0, [(share, branch)]), None, share)
            self.assertIs(show_bound(TWO, 0, [((1, 1), branch), (share, branch)]), None, share)

    def test_branches_that_are_none(self):
        for branch in ([], [(1, 0, 0)], [(1, 0, True)], ((1, 0, 1),), None, [(0, 1, 1)], [(1, 0)],
                       [(1, 0, 1), (1, 0, 1)]):
            self.assertIs(show_bound(TWO, 0, [((1, 1), branch)]), None, branch)
            self.assertIs(show_bound(TWO, 0, [((1, 1), [(1, 0, 1)]), ((1, 1), branch)]), None, branch)

    def test_whatever_is_handed_in(self):
        good = ((1, 1), [(1, 0, 1)])
        for thing in WHATEVER:
            wanted = 1 if repr(thing) == repr([good]) else None
            self.assertEqual(show_bound(TWO, 0, thing), wanted, thing)
            self.assertIs(show_bound(TWO, 0, [thing]), None, thing)
            self.assertIs(show_bound(TWO, 0, [good, thing]), None, thing)
        for thing in ((good,), [list(good)], [good + (1,)], [good[::-1]], [good[:1]], {0: good}, good):
            self.assertIs(show_bound(TWO, 0, thing), None, thing)

    def test_against_a_slow_answer_and_what_it_shows(self):
        shares = [(1, 1), (1, 2), (2, 3), (1, 3), (3, 4), (5, 2)]
        for web in (TWO, THREE, TRIANGLE, ROUND):
            for root in range(web[0]):
                wanted_stones = SlowFails(web, root, 1).need()
                branches = some_branches(web, root, 4)
                branches = [branch for branch in branches if len(branch) >= web[0] // 2]
                branches = branches[::max(1, len(branches) // 14)] + branches[-3:]
                for one, other in product(branches, repeat=2):
                    for at, share in enumerate(shares):
                        show = [(share, one), (shares[at - 1], other)]
                        told = show_bound(web, root, show)
                        self.assertEqual(repr(told), repr(slow_bound(web, root, show)))
                        if told is not None:
                            self.assertLessEqual(wanted_stones, told + 1)


class Trees(unittest.TestCase):
    def test_written_out(self):
        for web, root, told in (
            (ONE, 0, []), (TWO, 1, [((1, 1), [(0, 1, 1)])]), (THREE, 0, [((1, 1), [(1, 0, 2), (2, 1, 1)])]),
            (THREE, 1, [((1, 1), [(0, 1, 1), (2, 1, 1)])]),
            (FORK, 4, [((1, 1), [(3, 4, 4), (1, 3, 2), (0, 1, 1), (2, 1, 1)])]),
            (FORK, 0, [((1, 1), [(1, 0, 4), (2, 1, 1), (3, 1, 2), (4, 3, 1)])]),
            (TURNED, 4, [((1, 1), [(3, 4, 64), (5, 3, 32), (2, 5, 16), (6, 2, 8), (1, 6, 4), (7, 1, 2), (0, 7, 1)])]),
        ):
            self.assertEqual(repr(tree_show(web, root)), repr(told))

    def test_row_by_row(self):
        for web in TREES:
            for root in range(web[0]):
                told = tree_show(web, root)
                self.assertIs(type(told), list)
                self.assertEqual(show_bound(web, root, told), tree_need(web, root, 1) - 1)
                if web[0] == 1:
                    self.assertEqual(told, [])
                    continue
                self.assertEqual(len(told), 1)
                self.assertEqual(told[0][0], (1, 1))
                away = slow_distances(web)[root]
                tall = heights(web, root)
                order = sorted(range(web[0]), key=lambda place: (away[place], place))
                wanted = [
                    (place, [other for other in slow_neighbours(web, place) if away[other] < away[place]][0],
                     2 ** tall[place])
                    for place in order if place != root]
                self.assertEqual(repr(told[0][1]), repr(wanted))
                self.assertIs(is_branch(web, root, told[0][1]), True)

    def test_no_trees(self):
        for web in ((2, ()), (3, ((0, 1),)), TRIANGLE, ROUND, (4, ((0, 1), (0, 2), (1, 2))), RING, CUBE, FULL, BARE,
                    MIXED):
            for root in range(web[0]):
                self.assertIs(type(refusal(tree_show, web, root)), NotTree)
            for root in no_places(web[0]):
                self.assertIs(type(refusal(tree_show, web, root)), NoPlace)


class Rings(unittest.TestCase):
    def test_written_out(self):
        for n, root, told in (
            (3, 0, [((1, 3), [(1, 0, 2), (2, 1, 1)]), ((1, 3), [(2, 0, 2), (1, 2, 1)])]),
            (4, 0, [((1, 2), [(1, 0, 2), (2, 1, 1)]), ((1, 2), [(3, 0, 2), (2, 3, 1)])]),
            (5, 3, [((1, 3), [(4, 3, 4), (0, 4, 2), (1, 0, 1)]), ((1, 3), [(2, 3, 4), (1, 2, 2), (0, 1, 1)])]),
            (8, 7, [((1, 2), [(0, 7, 8), (1, 0, 4), (2, 1, 2), (3, 2, 1)]),
                    ((1, 2), [(6, 7, 8), (5, 6, 4), (4, 5, 2), (3, 4, 1)])]),
        ):
            self.assertEqual(repr(ring_show(n, root)), repr(told))

    def test_row_by_row(self):
        for n in range(3, 9):
            web = web_for(("ring", n))
            for root in range(n):
                told = ring_show(n, root)
                self.assertIs(type(told), list)
                size = n // 2 + n % 2
                wanted = []
                for sign in (1, -1):
                    branch = [((root + sign * at) % n, (root + sign * (at - 1)) % n, 2 ** (size - at))
                              for at in range(1, size + 1)]
                    wanted.append(((1, 2 + n % 2), branch))
                self.assertEqual(repr(told), repr(wanted))
                for share, branch in told:
                    self.assertIs(is_branch(web, root, branch), True)
                self.assertEqual(show_bound(web, root, told), ring_need(n) - 1)

    def test_refused(self):
        for n in no_wholes(3, 8):
            for place in (0, None, -1, 9):
                self.assertIs(type(refusal(ring_show, n, place)), NoNumber)
        for n in range(3, 9):
            for place in no_places(n):
                self.assertIs(type(refusal(ring_show, n, place)), NoPlace)


class ShowManners(manners.Manners):
    questions = (
        Question(is_branch, (WEB, PLACE, THING), [(THREE, 0, [(1, 0, 2), (2, 1, 1)]), (FULL, 7, None)]),
        Question(show_bound, (WEB, PLACE, THING), [
            (THREE, 0, [((1, 1), [(1, 0, 2), (2, 1, 1)])]), (FULL, 7, None), (ONE, 0, [])]),
        Question(tree_show, (WEB, PLACE), [(ONE, 0), (FORK, 3), (BUSH, 7)], [((RING, 0), Role(NotTree, None))]),
        Question(ring_show, (number(3, 8), PLACE), [(3, 2), (8, 0)], web_of=lambda handed: (handed[0], ())),
        Question(branch_sum, (THING,), []),
    )

    def test_branch_sum_changes_nothing(self):
        rows = [(1, 0, 2), (2, 1, 1)]
        self.assertEqual(branch_sum(rows), 3)
        self.assertEqual(rows, [(1, 0, 2), (2, 1, 1)])
        self.assertEqual(branch_sum([(1, 0, HUGE)]), HUGE)


if __name__ == "__main__":
    unittest.main()
