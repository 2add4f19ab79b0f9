"""Rings: how many stones are wanted there, sweeps round to a place, and papers that show that none can come."""

from twoforone.bounds import are_counts, doubled, must_be_within
from twoforone.heaps import must_be_heap
from twoforone.kinds import web_for
from twoforone.webs import must_be_place


def ring_of_places(n):
    must_be_within(n, 3, 8)
    return web_for(("ring", n))


def ring_need(n):
    must_be_within(n, 3, 8)
    half = doubled(1, n // 2)
    return half if n % 2 == 0 else 2 * (2 * half // 3) + 1


def ring_worst(n, place):
    must_be_place(ring_of_places(n), place)
    stones = ring_need(n) - 1
    heap = [0] * n
    if n % 2 == 0:
        heap[(place + n // 2) % n] = stones
    else:
        heap[(place + n // 2) % n] = stones // 2
        heap[(place + n // 2 + 1) % n] = stones // 2
    return tuple(heap)


def must_fit_ring(n, heap, place):
    web = ring_of_places(n)
    must_be_heap(web, heap)
    must_be_place(web, place)


def sweep_orders(n, place):
    upwards = [(place + at) % n for at in range(1, n)]
    return (upwards, list(reversed(upwards)))


def swept(heap, order):
    carried = []
    ahead = 0
    for place in order:
        ahead = (heap[place] + ahead) // 2
        carried.append(ahead)
    return carried


def sweeps(n, heap, place):
    must_fit_ring(n, heap, place)
    return tuple([swept(heap, order)[-1] for order in sweep_orders(n, place)])


def sweep_steps(heap, order, place):
    steps = []
    for one, other, times in zip(order, order[1:] + [place], swept(heap, order)):
        steps.extend([(one, other)] * times)
    return steps


def ring_steps(n, heap, place):
    must_fit_ring(n, heap, place)
    if heap[place] > 0:
        return []
    for order in sweep_orders(n, place):
        if swept(heap, order)[-1] > 0:
            return sweep_steps(heap, order, place)
    return None


def bounds_sweep(heap, order, numbers):
    if not are_counts(len(order), numbers) or numbers[-1] != 0:
        return False
    ahead = 0
    for place, number in zip(order, numbers):
        if heap[place] + ahead > 2 * number + 1:
            return False
        ahead = number
    return True


def sweep_holds(n, heap, place, thing):
    must_fit_ring(n, heap, place)
    if not isinstance(thing, tuple) or len(thing) != 2 or heap[place] > 0:
        return False
    return all([bounds_sweep(heap, order, numbers) for order, numbers in zip(sweep_orders(n, place), thing)])
