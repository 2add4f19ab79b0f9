"""Things that tests of several modules hand in, and what they ask of refusals."""

from itertools import combinations, product


def nested(deep, wrap):
    thing = 0
    for _ in range(deep):
        thing = wrap(thing)
    return thing


HUGE = 10 ** 99 + 7

# Whatever may be handed in and is neither a whole number nor a tuple.
NO_NUMBERS = [
    None, True, False, "", "0", "1", "web", "~ !", [], [0], [1], [[0, 1]], {}, {0: 1}, {"0": [1]},
    nested(20, lambda thing: [thing]), nested(20, lambda thing: {0: thing}),
]

TUPLES = [(), (0,), (1,), (None,), (True,), ([],), nested(20, lambda thing: (thing,))]

NO_PLACE_COUNTS = NO_NUMBERS + TUPLES + [0, -1, 9, 10, HUGE, -HUGE, (1, ()), (2, ((0, 1),))]

NO_PAIRS_OF_THREE = NO_NUMBERS + TUPLES + [
    0, 1, -1, HUGE, "01", "12", [0, 1], [1, 2], {0: 1, 1: 2}, (0, 1, 2), (0, 1, None), (0, 1, 0),
    (0, 0), (1, 1), (2, 2), (0, 3), (3, 0), (2, 3), (-1, 0), (0, -1), (-1, 2), (0, HUGE), (-HUGE, 0), (HUGE, HUGE),
    (False, 1), (0, True), (True, 0), (1, False), (True, 2), (2, True), (True, False),
    (None, 1), (0, None), ("0", 1), (0, "1"), ("0", "1"), ([0], 1), (0, [1]), ({}, 1), (0, {}), ((0,), 1), (0, (1,)),
    ((0, 1),), ((0, 1), (1, 2)), (nested(19, lambda thing: [thing]), 1), (0, nested(19, lambda thing: (thing,))),
]

NO_WEBS = NO_NUMBERS + TUPLES + [
    0, 1, 3, HUGE, -HUGE, "(1, ())", [1, ()], [3, ((0, 1),)], {3: ((0, 1),)}, {0: 1, 1: ()}, "1(",
    (1, (), ()), (3,), (3, ((0, 1),), None), ((0, 1), (1, 2)), (((0, 1),), 3), (3, (0, 1)), (3, 0), (3, "01"),
    (3, []), (3, {}), (3, [(0, 1)]), (3, {(0, 1): True}), (3, ""), (3, None), (3, False),
    (3, ((0, 1), (0, 1))), (3, ((1, 2), (0, 1))), (3, ((0, 2), (0, 1))), (3, ((0, 1), (1, 2), (0, 2))),
    (3, ((1, 0),)), (3, ((0, 1), (2, 1))), (3, ((0, 1), (1, 0))), (1, ((0, 1),)), (2, ((0, 1), (1, 2))),
]
NO_WEBS += [(many, ()) for many in NO_PLACE_COUNTS]
NO_WEBS += [(3, (pair,)) for pair in NO_PAIRS_OF_THREE]
NO_WEBS += [(3, ((0, 1), pair)) for pair in NO_PAIRS_OF_THREE]


def no_places(many):
    return NO_NUMBERS + TUPLES + [-1, -many, many, many + 1, 8, 9, HUGE, -HUGE, (0, 1)]


def no_wholes(least, most):
    """What is no whole number from least to most."""
    return NO_NUMBERS + TUPLES + [least - 1, most + 1, HUGE, -HUGE, (least,), str(least), [most], {least: most}]


# Whatever may be handed in, where that stands.
WHATEVER = NO_NUMBERS + TUPLES + [
    0, 1, 2, -1, 300, HUGE, -HUGE, (0, 0), (0, 1), (1, 0), [0, 1], [(0, 1)], [(1, 0)], [[0, 1]], [(0, 1), None],
    [(0, 1, 1)], ((0, 1, 1),), ((0, 1),), [()], [[]], [{}], [None], [True], ["0"], [(0, True)], [(True, 0)], [(0,)],
    [(0, HUGE)], [(0, 0, 0)], [((1, 1), [(1, 0, 1)])], [((1, 1), [])], ((), ()), ((0,), (0,)), {(0, 1): 1}, [HUGE],
    ("row", 3), "web 1", (HUGE,), (HUGE, HUGE, HUGE), (-1, 0, 0), (None, None, None), ([0], [0], [0]), "~" * 40,
    nested(20, lambda thing: (thing, [thing]) if isinstance(thing, int) else [thing]), [nested(19, lambda x: (x,))],
]


def numbers_in(thing):
    """Whether a thing is a tuple of plain ints, no truths among them."""
    return type(thing) is tuple and all(type(part) is int for part in thing)


def no_counts(many):
    """What is no tuple with a whole number from nought on for each of so many places."""
    bare = (0,) * many
    ones = (1,) * many
    found = [bare + (0,), bare[1:], ones + (1,), ones[1:], list(bare), list(ones), dict(enumerate(ones)), "1" * many]
    for part in (-1, -HUGE, True, False, None, "0", "1", [0], (0,), {}, [], nested(18, lambda thing: (thing,))):
        found += [ones[:at] + (part,) + ones[at + 1:] for at in range(many)]
    for thing in WHATEVER:
        if not (numbers_in(thing) and len(thing) == many and min(thing, default=0) >= 0):
            found.append(thing)
    return found


def no_heaps(web):
    many = web[0]
    beyond = [(0,) * at + (301,) + (0,) * (many - at - 1) for at in range(many)]
    if many > 1:
        beyond += [(300,) + (0,) * (many - 2) + (1,), (151, 150) + (0,) * (many - 2), (300,) * many]
    return no_counts(many) + beyond + [(HUGE,) * many]


def all_heaps(many, stones):
    """All heaps of just so many stones, rising."""
    if many == 1:
        return [(stones,)]
    return [(first,) + rest for first in range(stones + 1) for rest in all_heaps(many - 1, stones - first)]


def heaps_up_to(many, most):
    return [heap for stones in range(most + 1) for heap in all_heaps(many, stones)]


def slow_distances(web):
    """Distances by ways put together through each place in turn, unlike the program's own search."""
    many, ties = web
    table = [[0 if a == b else 99 for b in range(many)] for a in range(many)]
    for a, b in ties:
        table[a][b] = table[b][a] = 1
    for mid, a, b in product(range(many), repeat=3):
        table[a][b] = min(table[a][b], table[a][mid] + table[mid][b])
    return [[None if length >= 99 else length for length in row] for row in table]


def slow_neighbours(web, place):
    return sorted(a + b - place for a, b in web[1] if place in (a, b))


def slow_stepped(heap, step):
    return tuple(
        stones - 2 * (place == step[0]) + (place == step[1]) for place, stones in enumerate(heap))


def slow_steps(web, heap):
    return [(a, b) for a in range(web[0]) if heap[a] > 1 for b in slow_neighbours(web, a)]


def slow_closure(web, heap):
    """All heaps that come of a heap by steps, itself too, by the plainest search."""
    found = {heap}
    rim = [heap]
    while rim:
        now = rim.pop()
        for step in slow_steps(web, now):
            further = slow_stepped(now, step)
            if further not in found:
                found.add(further)
                rim.append(further)
    return found


def slow_most(web, heap, place):
    """The greatest number of stones that can lie at a place, by the plainest search."""
    return max(further[place] for further in slow_closure(web, heap))


class SlowFails:
    """Whether so many stones can't be brought to a place, each heap looked at once."""

    def __init__(self, web, place, many):
        self.web = web
        self.place = place
        self.many = many
        self.known = {}

    def fails(self, heap):
        if heap not in self.known:
            self.known[heap] = heap[self.place] < self.many and all(
                self.fails(slow_stepped(heap, step)) for step in slow_steps(self.web, heap))
        return self.known[heap]

    def failing(self, stones):
        return [heap for heap in all_heaps(self.web[0], stones) if self.fails(heap)]

    def need(self):
        stones = 0
        while self.failing(stones):
            stones += 1
        return stones


def all_ties(many):
    return list(combinations(range(many), 2))


def webs_up_to(most):
    for many in range(1, most + 1):
        ties = all_ties(many)
        for mask in range(1 << len(ties)):
            yield (many, tuple(tie for at, tie in enumerate(ties) if mask >> at & 1))


ROW = (8, tuple((at, at + 1) for at in range(7)))
RING = (8, ((0, 1), (0, 7)) + tuple((at, at + 1) for at in range(1, 7)))
CUBE = (8, tuple(tie for tie in all_ties(8) if bin(tie[0] ^ tie[1]).count("1") == 1))
FULL = (8, tuple(all_ties(8)))
STAR = (8, tuple((0, at) for at in range(1, 8)))
BARE = (8, ())
MIXED = (8, ((0, 5), (1, 4), (1, 7), (4, 7), (5, 6)))
TURNED = (8, ((0, 7), (1, 6), (1, 7), (2, 5), (2, 6), (3, 4), (3, 5)))
GREAT_WEBS = [ROW, RING, CUBE, FULL, STAR, BARE, MIXED, TURNED]


def refusal(call, *handed):
    """The error that a call refuses with; a failure where it answers."""
    try:
        answer = call(*handed)
    except ValueError as error:
        return error
    raise AssertionError(f"{handed!r} is not refused but answered with {answer!r}")
