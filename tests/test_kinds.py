import unittest
from itertools import product

from tests.things import (
    CUBE, FULL, HUGE, NO_NUMBERS, RING, ROW, STAR, TUPLES, WHATEVER, all_ties, nested, no_wholes, refusal,
)
from twoforone.errors import NoKind
from twoforone.kinds import kind_good, web_for
from twoforone.webs import is_tree, is_web

SIZES = {"row": range(1, 9), "ring": range(3, 9), "cube": range(0, 4), "full": range(1, 9), "star": range(1, 8)}
OVERS = [(None,) + rest for many in range(1, 6) for rest in product(*[range(place) for place in range(1, many)])]
GREAT_OVERS = [
    (None, 0, 1, 2, 3, 4, 5, 6), (None, 0, 0, 0, 0, 0, 0, 0), (None, 0, 0, 1, 1, 2, 2, 3), (None, 0, 1, 0, 3, 3, 2, 6),
    (None, 0, 1, 1, 0, 4, 5, 2), (None, 0, 0, 2, 3, 0), (None, 0, 1, 2, 2, 2, 5),
]
KINDS = [(word, size) for word, sizes in SIZES.items() for size in sizes]
KINDS += [("tree", over) for over in OVERS + GREAT_OVERS]


def digits_unlike(one, other):
    return sum(a != b for a, b in zip(f"{one:03b}", f"{other:03b}"))


def slow_web(kind):
    """The web of a kind, put together tie by tie."""
    word, size = kind
    if word == "row":
        return (size, tuple((at, at + 1) for at in range(size - 1)))
    if word == "ring":
        return (size, tuple(sorted([(at, at + 1) for at in range(size - 1)] + [(0, size - 1)])))
    if word == "cube":
        many = 2 ** size
        return (many, tuple(tie for tie in all_ties(many) if digits_unlike(*tie) == 1))
    if word == "full":
        return (size, tuple((a, b) for a in range(size) for b in range(size) if a < b))
    if word == "star":
        return (size + 1, tuple((0, at) for at in range(1, size + 1)))
    return (len(size), tuple(sorted((size[place], place) for place in range(1, len(size)))))


NO_KINDS = [(word, size) for word, sizes in SIZES.items() for size in no_wholes(sizes[0], sizes[-1])]
NO_KINDS += [("tree", thing) for thing in NO_NUMBERS + TUPLES if thing != (None,)]
NO_KINDS += [[word, sizes[0]] for word, sizes in SIZES.items()] + [["tree", (None,)]]
NO_KINDS += [(word,) for word in SIZES] + [(word, sizes[0], sizes[0]) for word, sizes in SIZES.items()]
NO_KINDS += [(sizes[0], word) for word, sizes in SIZES.items()] + [(sizes[0],) for sizes in SIZES.values()]
NO_KINDS += [("tree",), ("tree", (None,), None), ("tree", (None, 0), 2), ((None, 0), "tree"), ("tree", 3),
             ("tree", "0")]
NO_KINDS += [(word, 3) for word in ("", "rows", "Row", "ROW", " row", "row ", "web", "path", "t", "~")]
NO_KINDS += [(word, 3) for word in (None, True, 0, 3, HUGE, [], ["row"], {}, {"row": 3}, ("row",), ())]
NO_KINDS += [(word, (None, 0)) for word in SIZES] + [(word, [3]) for word in SIZES] + ["row", "row 3", "cube"]
NO_KINDS += [thing for thing in WHATEVER if thing != ("row", 3)]
NO_KINDS += [{"row": 3}, {0: "row", 1: 3}, ("row", nested(19, lambda thing: (thing,)))]
# Trees: a place told itself or one behind it, a first thing that is not None, of no or nine things, other forms.
NO_OVERS = [
    (), (None,) + (0,) * 8, (None, 0, 1, 2, 3, 4, 5, 6, 7), (0,), (0, 0), (-1, 0), (False, 0), ([], 0), ("", 0),
    (0, 0, 1),
    (None, 1), (None, 0, 2), (None, 0, 3), (None, 0, 0, 3), (None, 2, 0), (None, 0, 1, 7), (None, 0, HUGE),
    (None, -1), (None, 0, -1), (None, -HUGE), (None, None), (None, 0, None), (None, False), (None, 0, True),
    (None, 0, False), (None, "0"), (None, 0, "1"), (None, [0]), (None, (0,)), (None, {}), (None, 0, []),
    [None], [None, 0], [None, 0, 1], {0: None, 1: 0}, ((None, 0),), (None, (None, 0)),
]
NO_OVERS += [(None,) + (0,) * (place - 1) + (place,) + (0,) * (7 - place) for place in range(1, 8)]
NO_OVERS += [(None,) + (0,) * (place - 1) + (True,) + (0,) * (7 - place) for place in range(1, 8)]
NO_KINDS += [("tree", over) for over in NO_OVERS]


class Kinds(unittest.TestCase):
    def test_every_kind_is_good(self):
        for kind in KINDS:
            self.assertIs(kind_good(kind), True, kind)

    def test_every_web(self):
        for kind in KINDS:
            told = web_for(kind)
            self.assertEqual(repr(told), repr(slow_web(kind)), kind)
            self.assertIs(is_web(told), True)

    def test_webs_written_out(self):
        for kind, web in (
            (("row", 1), (1, ())),
            (("row", 2), (2, ((0, 1),))),
            (("row", 4), (4, ((0, 1), (1, 2), (2, 3)))),
            (("ring", 3), (3, ((0, 1), (0, 2), (1, 2)))),
            (("ring", 5), (5, ((0, 1), (0, 4), (1, 2), (2, 3), (3, 4)))),
            (("cube", 0), (1, ())),
            (("cube", 1), (2, ((0, 1),))),
            (("cube", 2), (4, ((0, 1), (0, 2), (1, 3), (2, 3)))),
            (("full", 1), (1, ())),
            (("full", 3), (3, ((0, 1), (0, 2), (1, 2)))),
            (("star", 1), (2, ((0, 1),))),
            (("star", 3), (4, ((0, 1), (0, 2), (0, 3)))),
            (("tree", (None,)), (1, ())),
            (("tree", (None, 0, 0, 1, 1, 2)), (6, ((0, 1), (0, 2), (1, 3), (1, 4), (2, 5)))),
        ):
            self.assertEqual(web_for(kind), web)
        for kind, web in ((("row", 8), ROW), (("ring", 8), RING), (("cube", 3), CUBE), (("full", 8), FULL)):
            self.assertEqual(web_for(kind), web)
        self.assertEqual(web_for(("star", 7)), STAR)

    def test_trees_are_trees(self):
        for over in OVERS + GREAT_OVERS:
            self.assertIs(is_tree(web_for(("tree", over))), True)

    def test_whatever_else_is_none(self):
        for thing in NO_KINDS:
            before = repr(thing)
            self.assertIs(kind_good(thing), False, thing)
            self.assertIs(type(refusal(web_for, thing)), NoKind, thing)
            self.assertEqual(repr(thing), before)

    def test_bounds(self):
        for word, sizes in SIZES.items():
            good = [size for size in range(-3, 20) if kind_good((word, size))]
            self.assertEqual(good, list(sizes))

    def test_a_truth_is_no_number_also_behind_its_equal(self):
        for kind, bad in ((("row", 1), ("row", True)), (("cube", 0), ("cube", False)), (("cube", 1), ("cube", True)),
                          (("tree", (None, 0)), ("tree", (None, False)))):
            self.assertIs(kind_good(kind), True)
            self.assertIs(kind_good(bad), False)
            web_for(kind)
            self.assertIs(type(refusal(web_for, bad)), NoKind)


if __name__ == "__main__":
    unittest.main()
