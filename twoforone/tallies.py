"""Tallies: how often each step is done, whatever the order, and how to put that in order."""

from twoforone.bounds import is_whole_within
from twoforone.errors import NoSteps, NoTally
from twoforone.heaps import is_step, must_be_heap
from twoforone.webs import must_be_web

MOST_TIMES = 300


def is_tally_row(web, thing):
    if not isinstance(thing, tuple) or len(thing) != 3:
        return False
    return is_step(web, thing[:2]) and is_whole_within(thing[2], 1, MOST_TIMES)


def are_tally_rows(web, thing):
    if not isinstance(thing, tuple):
        return False
    for at, row in enumerate(thing):
        if not is_tally_row(web, row):
            return False
        if at > 0 and row[:2] <= thing[at - 1][:2]:
            return False
    return True


def is_tally(web, thing):
    must_be_web(web)
    return are_tally_rows(web, thing)


def must_be_tally(web, thing):
    if not are_tally_rows(web, thing):
        raise NoTally()


def tally_from(times):
    return tuple([(step[0], step[1], times[step]) for step in sorted(times) if times[step] > 0])


def tally_of(web, steps):
    must_be_web(web)
    if not isinstance(steps, list):
        raise NoSteps(-1)
    times = {}
    for at, step in enumerate(steps):
        if not is_step(web, step):
            raise NoSteps(at)
        times[step] = times.get(step, 0) + 1
    return tally_from(times)


def left(heap, tally):
    stones = list(heap)
    for row in tally:
        stones[row[0]] = stones[row[0]] - 2 * row[2]
        stones[row[1]] = stones[row[1]] + row[2]
    return tuple(stones)


def left_by(web, heap, tally):
    must_be_web(web)
    must_be_heap(web, heap)
    must_be_tally(web, tally)
    return left(heap, tally)


def led_on(places, steps):
    return [place for place in places if any([step[0] == place and step[1] in places for step in steps])]


def ring_of(steps):
    # A place from which no step leads on to a place that is kept stands in no ring; from those that stay for good
    # one can always go on, and so comes round.
    places = sorted(set([step[0] for step in steps]))
    kept = led_on(places, steps)
    while kept != places:
        places = kept
        kept = led_on(places, steps)
    if len(places) == 0:
        return None
    way = [places[0]]
    while True:
        onward = [step[1] for step in steps if step[0] == way[-1] and step[1] in places]
        if onward[0] in way:
            return tuple(way[way.index(onward[0]):])
        way.append(onward[0])


def ring_in(web, tally):
    must_be_web(web)
    must_be_tally(web, tally)
    return ring_of([row[:2] for row in tally])


def steps_round(ring):
    return [(place, ring[(at + 1) % len(ring)]) for at, place in enumerate(ring)]


def leaned(web, tally):
    must_be_web(web)
    must_be_tally(web, tally)
    times = {}
    for row in tally:
        times[row[:2]] = row[2]
    ring = ring_of(list(times))
    while ring is not None:
        steps = steps_round(ring)
        fewest = min([times[step] for step in steps])
        for step in steps:
            times[step] = times[step] - fewest
        ring = ring_of([step for step in times if times[step] > 0])
    return tally_from(times)


def in_order(web, heap, tally):
    must_be_web(web)
    must_be_heap(web, heap)
    must_be_tally(web, tally)
    if ring_of([row[:2] for row in tally]) is not None or min(left(heap, tally)) < 0:
        raise NoTally()
    steps = []
    rows = list(tally)
    while len(rows) > 0:
        # Whatever is to come to a place has come there ahead of the first step from it.
        ends = [row[1] for row in rows]
        for row in rows:
            if row[0] not in ends:
                steps.extend([row[:2]] * row[2])
        rows = [row for row in rows if row[0] in ends]
    return steps
