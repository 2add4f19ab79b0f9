import unittest
from copy import deepcopy
from itertools import permutations, product

from tests import manners
from tests.manners import PLACE, WEB, Question
from tests.things import (
    BARE, CUBE, FULL, GREAT_WEBS, HUGE, MIXED, NO_PAIRS_OF_THREE, NO_PLACE_COUNTS, NO_WEBS, RING, ROW, STAR, TURNED,
    all_ties, no_places, refusal, slow_distances, webs_up_to,
)
from twoforone.errors import NoPlace, NoWeb
from twoforone.webs import far, is_joined, is_tree, is_web, pieces, tied_to, web_of

# The ties are few enough that all webs of up to five places can be looked through.
WEBS = list(webs_up_to(5)) + GREAT_WEBS


class WebCase(unittest.TestCase):
    def check_no_web(self, at, call, *handed):
        error = refusal(call, *handed)
        self.assertIs(type(error), NoWeb, handed)
        self.assertIs(type(error.at), int)
        self.assertEqual(error.at, at, handed)

    def check_no_place(self, call, *handed):
        self.assertIs(type(refusal(call, *handed)), NoPlace, handed)


class IsWeb(WebCase):
    def test_webs_of_each_size_bare_and_full(self):
        for many in range(1, 9):
            self.assertIs(is_web((many, ())), True)
            self.assertIs(is_web((many, tuple(all_ties(many)))), True)

    def test_all_webs(self):
        for web in WEBS:
            self.assertIs(is_web(web), True, web)

    def test_whatever_else_is_none(self):
        for thing in NO_WEBS:
            self.assertIs(is_web(thing), False, thing)

    def test_a_truth_is_no_number_though_it_is_equal_to_one(self):
        for good, bad in (
            ((1, ()), (True, ())),
            ((2, ((0, 1),)), (2, ((False, 1),))),
            ((2, ((0, 1),)), (2, ((0, True),))),
            ((3, ((1, 2),)), (3, ((True, 2),))),
        ):
            self.assertEqual(good, bad)
            self.assertIs(is_web(good), True)
            self.assertIs(is_web(bad), False)
            self.assertIs(is_web(good), True)

    def test_each_tie_is_looked_at(self):
        for web in GREAT_WEBS:
            many, ties = web
            for at, tie in enumerate(ties):
                turned = (tie[1], tie[0])
                for bad in (turned, tie[:1], tie + (7,), list(tie), (tie[0], 8), (tie[0], tie[0]), None, HUGE):
                    self.assertIs(is_web((many, ties[:at] + (bad,) + ties[at + 1:])), False)
                self.assertIs(is_web((many, ties[:at] + (tie,) + ties[at:])), False)
                self.assertIs(is_web((many, ties + (tie,))), False)

    def test_ties_must_rise(self):
        ties = tuple(all_ties(4))
        for order in permutations(ties):
            self.assertIs(is_web((4, order)), order == ties)

    def test_all_short_tuples_of_pairs(self):
        pairs = list(product(range(-1, 4), repeat=2))
        for many in (2, 3):
            good = set(all_ties(many))
            for ties in product(pairs, repeat=2):
                self.assertIs(is_web((many, ties)), ties[0] < ties[1] and set(ties) <= good, ties)

    def test_places_must_be_below_many(self):
        for many in range(2, 9):
            self.assertIs(is_web((many, ((many - 2, many - 1),))), True)
            self.assertIs(is_web((many, ((many - 2, many),))), False)
            self.assertIs(is_web((many - 1, ((many - 2, many - 1),))), False)


class WebOf(WebCase):
    def test_without_ties(self):
        for many in range(1, 9):
            self.assertEqual(web_of(many, []), (many, ()))

    def test_any_order(self):
        for order in permutations([(0, 1), (0, 3), (1, 2), (2, 3)]):
            self.assertEqual(web_of(4, list(order)), (4, ((0, 1), (0, 3), (1, 2), (2, 3))))

    def test_either_way_about(self):
        ties = [(0, 2), (0, 3), (1, 2), (2, 3)]
        for turns in product((False, True), repeat=4):
            handed = [tie[::-1] if turn else tie for tie, turn in zip(ties, turns)]
            self.assertEqual(web_of(4, handed), (4, tuple(ties)))
            self.assertEqual(web_of(4, handed[::-1]), (4, tuple(ties)))

    def test_all_webs(self):
        for web in WEBS:
            told = web_of(web[0], [(b, a) for a, b in reversed(web[1])])
            self.assertEqual(told, web)
            self.assertIs(is_web(told), True)

    def test_what_is_told_is_made_of_tuples(self):
        told = web_of(3, [(2, 0), (1, 0)])
        self.assertEqual([type(told), type(told[1])] + [type(tie) for tie in told[1]], [tuple] * 4)

    def test_no_number_of_places(self):
        for many in NO_PLACE_COUNTS:
            self.check_no_web(-1, web_of, many, [])

    def test_no_number_of_places_goes_ahead_of_the_list(self):
        for many in NO_PLACE_COUNTS:
            for things in ([None], [(0, 0)], [(0, 1), (0, 1)], [(0, 1)], [(0, 99), True]):
                self.check_no_web(-1, web_of, many, things)

    def test_no_pair_of_places(self):
        for thing in NO_PAIRS_OF_THREE:
            self.check_no_web(0, web_of, 3, [thing])
            self.check_no_web(0, web_of, 3, [thing, (0, 1)])
            self.check_no_web(1, web_of, 3, [(0, 1), thing])
            self.check_no_web(2, web_of, 3, [(2, 0), (1, 2), thing, None])

    def test_one_place_has_no_pair(self):
        for thing in ((0, 0), (0, 1), (1, 0), ()):
            self.check_no_web(0, web_of, 1, [thing])

    def test_a_place_must_be_below_many(self):
        for many in range(2, 9):
            self.assertEqual(web_of(many, [(many - 1, 0)]), (many, ((0, many - 1),)))
            self.check_no_web(1, web_of, many, [(0, 1), (many, 0)])
            self.check_no_web(0, web_of, many, [(0, many)])

    def test_a_tie_told_again(self):
        self.check_no_web(1, web_of, 3, [(0, 1), (0, 1)])
        self.check_no_web(1, web_of, 3, [(0, 1), (1, 0)])
        self.check_no_web(1, web_of, 3, [(1, 0), (0, 1)])
        self.check_no_web(1, web_of, 3, [(1, 0), (1, 0)])
        self.check_no_web(3, web_of, 3, [(0, 1), (2, 0), (1, 2), (1, 0)])
        self.check_no_web(28, web_of, 8, list(FULL[1]) + [(7, 0)])

    def test_the_first_bad_thing_is_told(self):
        self.check_no_web(1, web_of, 3, [(0, 1), None, (0, 1), (5, 5)])
        self.check_no_web(1, web_of, 3, [(0, 1), (1, 0), None])
        self.check_no_web(2, web_of, 3, [(0, 1), (0, 2), (0, 0), (0, 2)])
        self.check_no_web(0, web_of, 3, [(1, 1), (0, 1), (0, 1)])

    def test_the_list_stays_as_it_was(self):
        for things in (
            [(2, 1), (0, 1)], [(1, 0), (0, 2), (1, 2)], [(2, 1), (1, 2), (0, 1)], [(2, 1), [0, 1], {0: [1]}], [[2, 1]],
        ):
            before = deepcopy(things)
            for many in (3, 9):
                try:
                    web_of(many, things)
                except NoWeb:
                    pass
                self.assertEqual(things, before)

    def test_a_later_change_of_the_list_changes_nothing(self):
        things = [(2, 1), (1, 0)]
        web = web_of(3, things)
        things.append((0, 2))
        things[0] = None
        self.assertEqual(web, (3, ((0, 1), (1, 2))))
        self.assertEqual(web_of(3, [(2, 1), (1, 0)]), web)

    def test_a_refused_list_leaves_nothing_behind(self):
        self.check_no_web(1, web_of, 3, [(0, 1), (0, 1)])
        self.assertEqual(web_of(3, [(0, 1)]), (3, ((0, 1),)))
        self.assertEqual(web_of(3, []), (3, ()))


class TiedTo(WebCase):
    def test_ordinary_webs(self):
        self.assertEqual(tied_to((1, ()), 0), [])
        self.assertEqual(tied_to(ROW, 0), [1])
        self.assertEqual(tied_to(ROW, 3), [2, 4])
        self.assertEqual(tied_to(RING, 0), [1, 7])
        self.assertEqual(tied_to(CUBE, 5), [1, 4, 7])
        self.assertEqual(tied_to(FULL, 7), [0, 1, 2, 3, 4, 5, 6])
        self.assertEqual(tied_to(STAR, 0), [1, 2, 3, 4, 5, 6, 7])
        self.assertEqual(tied_to(BARE, 7), [])

    def test_all_webs(self):
        for web in WEBS:
            for place in range(web[0]):
                told = tied_to(web, place)
                self.assertIs(type(told), list)
                self.assertEqual(told, sorted([a + b - place for a, b in web[1] if place in (a, b)]))


class Far(WebCase):
    def test_ordinary_webs(self):
        self.assertEqual(far((1, ()), 0, 0), 0)
        self.assertEqual(far(ROW, 0, 7), 7)
        self.assertEqual(far(ROW, 5, 2), 3)
        self.assertEqual(far(RING, 1, 6), 3)
        self.assertEqual(far(CUBE, 0, 7), 3)
        self.assertEqual(far(FULL, 3, 6), 1)
        self.assertEqual(far(STAR, 3, 6), 2)
        self.assertEqual(far(TURNED, 0, 4), 7)
        self.assertIs(far(MIXED, 0, 1), None)
        self.assertIs(far(BARE, 0, 7), None)

    def test_all_webs_both_ways(self):
        for web in WEBS:
            table = slow_distances(web)
            for one, other in product(range(web[0]), repeat=2):
                told = far(web, one, other)
                self.assertEqual(told, table[one][other])
                self.assertIn(type(told), (int, type(None)))
                self.assertEqual(far(web, other, one), told)


class Pieces(WebCase):
    def test_ordinary_webs(self):
        self.assertEqual(pieces((1, ())), [(0,)])
        self.assertEqual(pieces((3, ())), [(0,), (1,), (2,)])
        self.assertEqual(pieces((4, ((0, 3), (1, 2)))), [(0, 3), (1, 2)])
        self.assertEqual(pieces((5, ((0, 4), (1, 3)))), [(0, 4), (1, 3), (2,)])
        self.assertEqual(pieces(MIXED), [(0, 5, 6), (1, 4, 7), (2,), (3,)])
        self.assertEqual(pieces(TURNED), [(0, 1, 2, 3, 4, 5, 6, 7)])

    def test_all_webs(self):
        for web in WEBS:
            table = slow_distances(web)
            wanted = {tuple(b for b in range(web[0]) if table[a][b] is not None) for a in range(web[0])}
            told = pieces(web)
            self.assertIs(type(told), list)
            self.assertEqual([type(piece) for piece in told], [tuple] * len(told))
            self.assertEqual(told, sorted(wanted))

    def test_is_joined(self):
        for web in ((1, ()), (2, ((0, 1),)), ROW, RING, CUBE, FULL, STAR, TURNED):
            self.assertIs(is_joined(web), True)
        for web in ((2, ()), (4, ((0, 3), (1, 2))), (4, ((0, 1), (0, 2), (1, 2))), BARE, MIXED):
            self.assertIs(is_joined(web), False)

    def test_is_joined_for_all_webs(self):
        for web in WEBS:
            self.assertIs(is_joined(web), None not in slow_distances(web)[0])

    def test_is_tree(self):
        for web in ((1, ()), (2, ((0, 1),)), (4, ((0, 3), (1, 3), (2, 3))), ROW, STAR, TURNED):
            self.assertIs(is_tree(web), True)

    def test_one_piece_with_a_tie_too_many_is_no_tree(self):
        for web in ((3, ((0, 1), (0, 2), (1, 2))), (4, ((0, 1), (0, 2), (0, 3), (1, 2))), RING, CUBE, FULL):
            self.assertIs(is_tree(web), False)

    def test_several_pieces_with_one_tie_fewer_than_places_are_no_tree(self):
        for web in (
            (4, ((0, 1), (0, 2), (1, 2))), (4, ((1, 2), (1, 3), (2, 3))),
            (6, ((0, 1), (0, 2), (1, 2), (2, 3), (4, 5))),
            (8, ((0, 1), (0, 2), (1, 2), (3, 4), (4, 5), (5, 6), (6, 7))),
        ):
            self.assertEqual(len(web[1]), web[0] - 1)
            self.assertIs(is_tree(web), False)

    def test_several_pieces_without_rings_are_no_tree(self):
        for web in ((2, ()), (3, ((0, 1),)), (4, ((0, 3), (1, 2))), BARE):
            self.assertIs(is_tree(web), False)

    def test_is_tree_for_all_webs(self):
        for web in WEBS:
            joined = None not in slow_distances(web)[0]
            self.assertIs(is_tree(web), joined and len(web[1]) == web[0] - 1)


class Refusals(WebCase):
    def test_what_is_no_web(self):
        for thing in NO_WEBS:
            self.check_no_web(-1, tied_to, thing, 0)
            self.check_no_web(-1, far, thing, 0, 0)
            self.check_no_web(-1, pieces, thing)
            self.check_no_web(-1, is_joined, thing)
            self.check_no_web(-1, is_tree, thing)

    def test_no_web_goes_ahead_of_no_place(self):
        for thing in (None, (0, ()), (9, ()), (3, ((1, 0),)), (True, ()), [1, ()], (3, [(0, 1)])):
            for place in no_places(3):
                self.check_no_web(-1, tied_to, thing, place)
                self.check_no_web(-1, far, thing, place, 0)
                self.check_no_web(-1, far, thing, 0, place)
                self.check_no_web(-1, far, thing, place, place)

    def test_what_is_no_place(self):
        for web in ((1, ()), (3, ((0, 1), (1, 2))), BARE, FULL):
            for place in no_places(web[0]):
                self.check_no_place(tied_to, web, place)
                self.check_no_place(far, web, place, 0)
                self.check_no_place(far, web, 0, place)
                self.check_no_place(far, web, place, place)

    def test_a_truth_is_no_place_also_behind_its_equal(self):
        web = (2, ((0, 1),))
        self.assertEqual(tied_to(web, 1), [0])
        self.check_no_place(tied_to, web, True)
        self.assertEqual(far(web, 0, 1), 1)
        self.check_no_place(far, web, 0, True)
        self.check_no_place(far, web, False, 1)

    def test_a_refused_place_stays_as_it_was(self):
        for place in ([0, [1]], {0: [1]}):
            before = deepcopy(place)
            self.check_no_place(tied_to, BARE, place)
            self.check_no_place(far, BARE, place, place)
            self.assertEqual(place, before)


class ListsAreTheAskersOwn(WebCase):
    def check_own(self, call, *handed):
        first = call(*handed)
        wanted = list(first)
        first.reverse()
        first.append(99)
        second = call(*handed)
        self.assertIsNot(second, first)
        self.assertEqual(second, wanted)
        second.clear()
        self.assertEqual(call(*handed), wanted)
        self.assertEqual(first[-1], 99)

    def test_lists_may_be_changed(self):
        for web in [(1, ()), (3, ((0, 1), (1, 2)))] + GREAT_WEBS:
            self.check_own(pieces, web)
            for place in range(web[0]):
                self.check_own(tied_to, web, place)

    def test_a_changed_list_changes_no_other_answer(self):
        for web in GREAT_WEBS:
            before = [is_joined(web), is_tree(web), [far(web, 0, place) for place in range(8)], pieces(web)]
            pieces(web).clear()
            for place in range(8):
                tied_to(web, place).clear()
            self.assertEqual(
                [is_joined(web), is_tree(web), [far(web, 0, place) for place in range(8)], pieces(web)], before)

    def test_what_was_told_may_be_handed_in_again(self):
        web = web_of(4, [(3, 0), (1, 3)])
        for piece in pieces(web):
            for place in piece:
                for other in tied_to(web, place):
                    self.assertEqual(far(web, place, other), 1)
        self.assertEqual(web_of(web[0], list(web[1])), web)


class WebManners(manners.Manners):
    questions = (
        Question(tied_to, (WEB, PLACE), [(RING, 3), (MIXED, 2), ((1, ()), 0)]),
        Question(far, (WEB, PLACE, PLACE), [(RING, 3, 7), (MIXED, 0, 1), ((1, ()), 0, 0)]),
        Question(pieces, (WEB,), [(RING,), (MIXED,), ((1, ()),)]),
        Question(is_joined, (WEB,), [(RING,), (MIXED,), ((1, ()),)]),
        Question(is_tree, (WEB,), [(RING,), (MIXED,), ((1, ()),)]),
    )


if __name__ == "__main__":
    unittest.main()
