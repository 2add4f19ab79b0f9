"""Cubes: as many stones as places always bring one to any place."""

from twoforone.bounds import must_be_within
from twoforone.errors import NoNumber
from twoforone.gets import reach
from twoforone.heaps import must_be_heap
from twoforone.kinds import web_for
from twoforone.webs import must_be_place


def cube_of_digits(d):
    must_be_within(d, 0, 3)
    return web_for(("cube", d))


def cube_need(d):
    return cube_of_digits(d)[0]


def cube_worst(d, place):
    web = cube_of_digits(d)
    must_be_place(web, place)
    most = web[0] - 1
    return tuple([most if other == most ^ place else 0 for other in range(web[0])])


def lessened(heap, stones):
    taken = []
    for many in heap:
        taken.append(min(many, stones - sum(taken)))
    return tuple(taken)


def cube_steps(d, heap, place):
    web = cube_of_digits(d)
    must_be_heap(web, heap)
    must_be_place(web, place)
    if sum(heap) < web[0]:
        raise NoNumber()
    if heap[place] > 0:
        return []
    # As many stones as places are enough, and few enough for all their heaps to be looked through.
    return reach(web, lessened(heap, web[0]), place, 1)
