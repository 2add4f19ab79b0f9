"""Shows: branches of weights put together, which tell from how many stones on one always comes to a root."""

from twoforone.bars import lowest
from twoforone.bounds import doubled, is_whole
from twoforone.heaps import is_step
from twoforone.rings import ring_of_places, sweep_orders
from twoforone.trees import heights_from, inner_neighbours, must_be_tree, outwards
from twoforone.webs import must_be_place, must_be_web


def is_branch_row(web, root, weights_ahead, thing):
    if not isinstance(thing, tuple) or len(thing) != 3:
        return False
    if not is_step(web, thing[:2]) or not is_whole(thing[2]) or thing[2] < 1:
        return False
    if thing[0] == root or thing[0] in weights_ahead:
        return False
    if thing[1] == root:
        return True
    return thing[1] in weights_ahead and 2 * thing[2] <= weights_ahead[thing[1]]


def are_branch_rows(web, root, thing):
    if not isinstance(thing, list) or len(thing) == 0:
        return False
    weights_ahead = {}
    for row in thing:
        if not is_branch_row(web, root, weights_ahead, row):
            return False
        weights_ahead[row[0]] = row[2]
    return True


def is_branch(web, place, thing):
    must_be_web(web)
    must_be_place(web, place)
    return are_branch_rows(web, place, thing)


def branch_sum(branch):
    return sum([row[2] for row in branch])


def is_share(thing):
    if not isinstance(thing, tuple) or len(thing) != 2:
        return False
    if not is_whole(thing[0]) or not is_whole(thing[1]) or thing[0] < 1 or thing[1] < 1:
        return False
    return lowest(thing[0], thing[1]) == thing


def is_shared_branch(web, root, thing):
    if not isinstance(thing, tuple) or len(thing) != 2:
        return False
    return is_share(thing[0]) and are_branch_rows(web, root, thing[1])


def shared_sum(shares, numbers):
    top = 0
    bottom = 1
    for share, number in zip(shares, numbers):
        top = top * share[1] + bottom * share[0] * number
        bottom = bottom * share[1]
    return (top, bottom)


def weight_at(branch, place):
    return sum([row[2] for row in branch if row[0] == place])


def show_bound(web, place, thing):
    must_be_web(web)
    must_be_place(web, place)
    if not isinstance(thing, list) or not all([is_shared_branch(web, place, part) for part in thing]):
        return None
    shares = [part[0] for part in thing]
    branches = [part[1] for part in thing]
    for other in range(web[0]):
        told = shared_sum(shares, [weight_at(branch, other) for branch in branches])
        if other != place and told[0] < told[1]:
            return None
    total = shared_sum(shares, [branch_sum(branch) for branch in branches])
    return total[0] // total[1]


def tree_show(web, place):
    must_be_web(web)
    must_be_place(web, place)
    must_be_tree(web)
    tall = heights_from(web, place)
    inner = inner_neighbours(web, place)
    branch = [(other, inner[other], doubled(1, tall[other])) for other in outwards(web, place) if other != place]
    return [((1, 1), branch)] if len(branch) > 0 else []


def ring_branch(order, place):
    # The last one weighs 1, each other one twice as much as the next.
    inner = [place] + order
    return [(other, inner[at], doubled(1, len(order) - 1 - at)) for at, other in enumerate(order)]


def ring_show(n, place):
    must_be_place(ring_of_places(n), place)
    # Where n is odd both branches have the two farthest places, with the weights 2 and 1.
    share = (1, 2) if n % 2 == 0 else (1, 3)
    return [(share, ring_branch(order[:(n + 1) // 2], place)) for order in sweep_orders(n, place)]
