"""Heaps of stones on a web, and the steps that take two stones for one."""

from twoforone.bounds import MOST_STONES, are_counts, must_be_within
from twoforone.errors import NoHeap, NoSteps
from twoforone.webs import is_pair, must_be_place, must_be_web, neighbours, tie_between


def are_stones(web, thing):
    return are_counts(web[0], thing) and sum(thing) <= MOST_STONES


def is_heap(web, thing):
    must_be_web(web)
    return are_stones(web, thing)


def must_be_heap(web, thing):
    if not are_stones(web, thing):
        raise NoHeap()


def is_step(web, thing):
    return is_pair(web[0], thing) and tie_between(thing[0], thing[1]) in web[1]


def all_steps(web):
    found = []
    for place in range(web[0]):
        found.extend([(place, other) for other in neighbours(web, place)])
    return found


def steps_from(web, heap):
    must_be_web(web)
    must_be_heap(web, heap)
    return [step for step in all_steps(web) if heap[step[0]] >= 2]


def stepped(heap, step):
    stones = list(heap)
    stones[step[0]] = stones[step[0]] - 2
    stones[step[1]] = stones[step[1]] + 1
    return tuple(stones)


def walk(web, heap, thing):
    # What is wrong is told beside the heaps: whether a step can be done shows on the way alone.
    if not isinstance(thing, list):
        return ([], ("list", 0))
    heaps = []
    now = heap
    for at, step in enumerate(thing):
        if not is_step(web, step):
            return (heaps, ("form", at))
        if now[step[0]] < 2:
            return (heaps, ("bare", at))
        now = stepped(now, step)
        heaps.append(now)
    return (heaps, None)


def walked(web, heap, steps):
    must_be_web(web)
    must_be_heap(web, heap)
    told = walk(web, heap, steps)
    wrong = told[1]
    if wrong is not None:
        raise NoSteps(-1 if wrong[0] == "list" else wrong[1])
    return told[0]


def steps_wrong(web, heap, thing):
    must_be_web(web)
    must_be_heap(web, heap)
    return walk(web, heap, thing)[1]


def brings(web, heap, place, many, thing):
    must_be_web(web)
    must_be_heap(web, heap)
    must_be_place(web, place)
    must_be_within(many, 1, MOST_STONES)
    told = walk(web, heap, thing)
    if told[1] is not None:
        return False
    last = ([heap] + told[0])[-1]
    return last[place] >= many
