"""Spread heaps, from which a stone can be brought to each place, and how few stones they can have."""

from twoforone.bars import worth
from twoforone.bounds import are_counts, must_be_at_most, must_be_within
from twoforone.gets import reached
from twoforone.webs import must_be_web

MOST_SPREAD = 6


def is_spread(web, heap):
    return len(reached(web, heap)) == web[0]


def heaps_of(many, stones):
    # Rising, so that the first spread one of them is the first as tuples compare.
    if many == 1:
        return [(stones,)]
    found = []
    for first in range(stones + 1):
        found.extend([(first,) + rest for rest in heaps_of(many - 1, stones - first)])
    return found


def first_spread(web):
    must_be_web(web)
    must_be_at_most(web[0], MOST_SPREAD)
    stones = 1
    # A stone at each place is a spread heap, so this comes to an end.
    while True:
        for heap in heaps_of(web[0], stones):
            if is_spread(web, heap):
                return heap
        stones = stones + 1


def spread_need(web):
    return sum(first_spread(web))


def marks_bound(web, thing):
    must_be_web(web)
    if not are_counts(web[0], thing) or sum(thing) == 0:
        return None
    worths = [worth(web, thing, place) for place in range(web[0])]
    # By the greatest worth the sum comes to the least.
    return min([(sum(thing) * bottom + top - 1) // top for top, bottom in worths if top > 0])


def row_spread(n):
    must_be_within(n, 1, 8)
    full = n - n % 3
    return (0, 2, 0) * (full // 3) + (1,) * (n - full)
