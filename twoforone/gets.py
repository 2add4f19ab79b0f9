"""What a place can get: all heaps that come of a heap by steps, looked through one by one."""

from twoforone.bounds import MOST_STONES, must_be_at_most, must_be_within
from twoforone.heaps import all_steps, are_stones, must_be_heap, stepped
from twoforone.webs import must_be_place, must_be_web

MOST_SEARCHED = 12


def heaps_behind(web, heap):
    # The heap and the step that each one first came of are kept, so that the way to it can be told.
    steps = all_steps(web)
    found = {heap: None}
    rim = [heap]
    while len(rim) > 0:
        further = []
        for now in rim:
            for step in [step for step in steps if now[step[0]] >= 2]:
                then = stepped(now, step)
                if then not in found:
                    found[then] = (now, step)
                    further.append(then)
        rim = further
    return found


def most_at(web, heap, place):
    must_be_web(web)
    must_be_heap(web, heap)
    must_be_place(web, place)
    must_be_at_most(sum(heap), MOST_SEARCHED)
    return max([other[place] for other in heaps_behind(web, heap)])


def steps_to(found, heap):
    steps = []
    now = heap
    while found[now] is not None:
        steps.append(found[now][1])
        now = found[now][0]
    return list(reversed(steps))


def must_be_asked(web, heap, place, many):
    must_be_web(web)
    must_be_heap(web, heap)
    must_be_place(web, place)
    must_be_within(many, 1, MOST_STONES)


def reach(web, heap, place, many):
    must_be_asked(web, heap, place, many)
    must_be_at_most(sum(heap), MOST_SEARCHED)
    found = heaps_behind(web, heap)
    for other in found:
        if other[place] >= many:
            return steps_to(found, other)
    return None


def reached(web, heap):
    must_be_web(web)
    must_be_heap(web, heap)
    must_be_at_most(sum(heap), MOST_SEARCHED)
    found = heaps_behind(web, heap)
    return [place for place in range(web[0]) if any([other[place] > 0 for other in found])]


def is_closed(web, held):
    steps = all_steps(web)
    for heap in held:
        for step in steps:
            if heap[step[0]] >= 2 and stepped(heap, step) not in held:
                return False
    return True


def closed_holds(web, heap, place, many, thing):
    must_be_asked(web, heap, place, many)
    if not isinstance(thing, list):
        return False
    held = {}
    for other in thing:
        # Other things than heaps may be no keys at all.
        if not are_stones(web, other) or other[place] >= many:
            return False
        held[other] = True
    return heap in held and is_closed(web, held)


def closed_for(web, heap, place, many):
    must_be_asked(web, heap, place, many)
    must_be_at_most(sum(heap), MOST_SEARCHED)
    found = heaps_behind(web, heap)
    if any([other[place] >= many for other in found]):
        return None
    return sorted(found)
