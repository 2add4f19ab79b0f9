"""Trees seen from a root: heights, ways outwards, and how many stones always bring one or two to the root."""

from twoforone.bounds import doubled, must_be_within
from twoforone.errors import NotTree
from twoforone.webs import is_tree, must_be_place, must_be_web, neighbours, ties_away


def must_be_tree(web):
    if not is_tree(web):
        raise NotTree()


def outer_neighbours(web, root):
    away = ties_away(web, root)
    outer = []
    for place in range(web[0]):
        outer.append([other for other in neighbours(web, place) if away[other] > away[place]])
    return outer


def inner_neighbours(web, root):
    inner = [None] * web[0]
    for place, outer in enumerate(outer_neighbours(web, root)):
        for other in outer:
            inner[other] = place
    return inner


def outwards(web, root):
    # So each place stands behind its inner neighbour and ahead of its outer ones.
    away = ties_away(web, root)
    return sorted(range(web[0]), key=lambda place: (away[place], place))


def heights_from(web, root):
    outer = outer_neighbours(web, root)
    tall = [0] * web[0]
    for place in reversed(outwards(web, root)):
        tall[place] = max([tall[other] + 1 for other in outer[place]], default=0)
    return tuple(tall)


def heights(web, place):
    must_be_web(web)
    must_be_place(web, place)
    must_be_tree(web)
    return heights_from(web, place)


def ways_from(web, root):
    tall = heights_from(web, root)
    outer = outer_neighbours(web, root)
    # A place's main one stands first there.
    ranked = [sorted(others, key=lambda other: (-tall[other], other)) for others in outer]
    found = []
    for place in range(web[0]):
        for at, other in enumerate(ranked[place]):
            # A place that is not the root goes on with its main one in the way that leads to it.
            if at > 0 or place == root:
                found.append(way_through(ranked, (place, other)))
    return sorted(found, key=lambda way: (-len(way), way))


def way_through(ranked, way):
    while len(ranked[way[-1]]) > 0:
        way = way + (ranked[way[-1]][0],)
    return way


def ways(web, place):
    must_be_web(web)
    must_be_place(web, place)
    must_be_tree(web)
    return ways_from(web, place)


def worst_from(web, root, times):
    stones = [0] * web[0]
    # Of one place alone the way that has no tie ends at the root.
    for at, way in enumerate(ways_from(web, root) or [(root,)]):
        stones[way[-1]] = doubled(times if at == 0 else 1, len(way) - 1) - 1
    return tuple(stones)


def tree_need(web, place, times):
    return sum(tree_worst(web, place, times)) + 1


def tree_worst(web, place, times):
    must_be_web(web)
    must_be_place(web, place)
    must_be_within(times, 1, 2)
    must_be_tree(web)
    return worst_from(web, place, times)
