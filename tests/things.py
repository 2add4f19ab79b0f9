"""Things that tests of several modules hand in, and what they ask of refusals."""

from itertools import combinations


def nested(deep, wrap):
    thing = 0
    for _ in range(deep):
        thing = wrap(thing)
    return thing


HUGE = 10 ** 99 + 7

# Whatever may be handed in and is neither a whole number nor a tuple.
NO_NUMBERS = [
    None, True, False, "", "0", "1", "web", "~ !", [], [0], [1], [[0, 1]], {}, {0: 1}, {"0": [1]},
    nested(20, lambda thing: [thing]), nested(20, lambda thing: {0: thing}),
]

TUPLES = [(), (0,), (1,), (None,), (True,), ([],), nested(20, lambda thing: (thing,))]

NO_PLACE_COUNTS = NO_NUMBERS + TUPLES + [0, -1, 9, 10, HUGE, -HUGE, (1, ()), (2, ((0, 1),))]

NO_PAIRS_OF_THREE = NO_NUMBERS + TUPLES + [
    0, 1, -1, HUGE, "01", "12", [0, 1], [1, 2], {0: 1, 1: 2}, (0, 1, 2), (0, 1, None), (0, 1, 0),
    (0, 0), (1, 1), (2, 2), (0, 3), (3, 0), (2, 3), (-1, 0), (0, -1), (-1, 2), (0, HUGE), (-HUGE, 0), (HUGE, HUGE),
    (False, 1), (0, True), (True, 0), (1, False), (True, 2), (2, True), (True, False),
    (None, 1), (0, None), ("0", 1), (0, "1"), ("0", "1"), ([0], 1), (0, [1]), ({}, 1), (0, {}), ((0,), 1), (0, (1,)),
    ((0, 1),), ((0, 1), (1, 2)), (nested(19, lambda thing: [thing]), 1), (0, nested(19, lambda thing: (thing,))),
]

NO_WEBS = NO_NUMBERS + TUPLES + [
    0, 1, 3, HUGE, -HUGE, "(1, ())", [1, ()], [3, ((0, 1),)], {3: ((0, 1),)}, {0: 1, 1: ()}, "1(",
    (1, (), ()), (3,), (3, ((0, 1),), None), ((0, 1), (1, 2)), (((0, 1),), 3), (3, (0, 1)), (3, 0), (3, "01"),
    (3, []), (3, {}), (3, [(0, 1)]), (3, {(0, 1): True}), (3, ""), (3, None), (3, False),
    (3, ((0, 1), (0, 1))), (3, ((1, 2), (0, 1))), (3, ((0, 2), (0, 1))), (3, ((0, 1), (1, 2), (0, 2))),
    (3, ((1, 0),)), (3, ((0, 1), (2, 1))), (3, ((0, 1), (1, 0))), (1, ((0, 1),)), (2, ((0, 1), (1, 2))),
]
NO_WEBS += [(many, ()) for many in NO_PLACE_COUNTS]
NO_WEBS += [(3, (pair,)) for pair in NO_PAIRS_OF_THREE]
NO_WEBS += [(3, ((0, 1), pair)) for pair in NO_PAIRS_OF_THREE]


def no_places(many):
    return NO_NUMBERS + TUPLES + [-1, -many, many, many + 1, 8, 9, HUGE, -HUGE, (0, 1)]


def all_ties(many):
    return list(combinations(range(many), 2))


def webs_up_to(most):
    for many in range(1, most + 1):
        ties = all_ties(many)
        for mask in range(1 << len(ties)):
            yield (many, tuple(tie for at, tie in enumerate(ties) if mask >> at & 1))


ROW = (8, tuple((at, at + 1) for at in range(7)))
RING = (8, ((0, 1), (0, 7)) + tuple((at, at + 1) for at in range(1, 7)))
CUBE = (8, tuple(tie for tie in all_ties(8) if bin(tie[0] ^ tie[1]).count("1") == 1))
FULL = (8, tuple(all_ties(8)))
STAR = (8, tuple((0, at) for at in range(1, 8)))
BARE = (8, ())
MIXED = (8, ((0, 5), (1, 4), (1, 7), (4, 7), (5, 6)))
TURNED = (8, ((0, 7), (1, 6), (1, 7), (2, 5), (2, 6), (3, 4), (3, 5)))
GREAT_WEBS = [ROW, RING, CUBE, FULL, STAR, BARE, MIXED, TURNED]


def refusal(call, *handed):
    """The error that a call refuses with; a failure where it answers."""
    try:
        answer = call(*handed)
    except ValueError as error:
        return error
    raise AssertionError(f"{handed!r} is not refused but answered with {answer!r}")
