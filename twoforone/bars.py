"""Bars by weights: what a heap is worth at a place, and weights that show that no stone can come there."""

from twoforone.bounds import are_counts, doubled
from twoforone.heaps import must_be_heap
from twoforone.webs import must_be_place, must_be_web, ties_away


def lowest(top, bottom):
    # The greatest number that divides both, by taking the rest again and again.
    one = top
    other = bottom
    while other > 0:
        rest = one % other
        one = other
        other = rest
    return (top // one, bottom // one)


def weighed(stones, weights):
    return sum([many * weight for many, weight in zip(stones, weights)])


def halving_weights(web, place):
    # Doubled from the farthest place inwards, so that all of them are whole.
    away = ties_away(web, place)
    farthest = max([ties for ties in away if ties is not None])
    return tuple([0 if ties is None else doubled(1, farthest - ties) for ties in away])


def worth(web, stones, place):
    weights = halving_weights(web, place)
    return lowest(weighed(stones, weights), weights[place])


def worth_at(web, heap, place):
    must_be_web(web)
    must_be_heap(web, heap)
    must_be_place(web, place)
    return worth(web, heap, place)


def at_most(web, heap, place):
    told = worth_at(web, heap, place)
    return told[0] // told[1]


def are_even(web, weights):
    # Two stones at one end of a tie never weigh less than one at the other.
    for tie in web[1]:
        one = weights[tie[0]]
        other = weights[tie[1]]
        if one > 2 * other or other > 2 * one:
            return False
    return True


def is_bar(web, heap, place, thing):
    must_be_web(web)
    must_be_heap(web, heap)
    must_be_place(web, place)
    if not are_counts(web[0], thing):
        return False
    return are_even(web, thing) and weighed(heap, thing) < thing[place]


def far_weights(web, place):
    must_be_web(web)
    must_be_place(web, place)
    return halving_weights(web, place)


def bar_for(web, heap, place):
    must_be_web(web)
    must_be_heap(web, heap)
    must_be_place(web, place)
    weights = halving_weights(web, place)
    return weights if is_bar(web, heap, place, weights) else None
