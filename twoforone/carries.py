"""What a tree's places carry towards a root, the steps that carry it, and papers that show no more can come."""

from twoforone.bounds import are_counts
from twoforone.heaps import must_be_heap
from twoforone.trees import inner_neighbours, must_be_tree, outer_neighbours, outwards
from twoforone.webs import must_be_place, must_be_web, ties_away


def must_be_rooted(web, heap, place):
    must_be_web(web)
    must_be_heap(web, heap)
    must_be_place(web, place)
    must_be_tree(web)


def gathered(heap, outer, carried, place):
    return heap[place] + sum([carried[other] for other in outer[place]])


def carried_to(web, heap, root):
    outer = outer_neighbours(web, root)
    carried = [0] * web[0]
    for place in reversed(outwards(web, root)):
        stones = gathered(heap, outer, carried, place)
        carried[place] = stones if place == root else stones // 2
    return tuple(carried)


def carries(web, heap, place):
    must_be_rooted(web, heap, place)
    return carried_to(web, heap, place)


def tree_steps(web, heap, place):
    must_be_rooted(web, heap, place)
    carried = carried_to(web, heap, place)
    inner = inner_neighbours(web, place)
    away = ties_away(web, place)
    steps = []
    for other in sorted(range(web[0]), key=lambda at: (-away[at], at)):
        if other != place:
            steps.extend([(other, inner[other])] * carried[other])
    return steps


def carry_holds(web, heap, place, thing):
    must_be_rooted(web, heap, place)
    if not are_counts(web[0], thing):
        return False
    outer = outer_neighbours(web, place)
    for other in range(web[0]):
        stones = gathered(heap, outer, thing, other)
        most = thing[other] if other == place else 2 * thing[other] + 1
        if stones > most:
            return False
    return True
