"""How many stones are wanted: the heaps that can't bring so many to a place, counted up stone by stone."""

from twoforone.bounds import MOST_STONES, must_be_at_most, must_be_within
from twoforone.errors import NotJoined
from twoforone.heaps import all_steps, stepped
from twoforone.webs import is_joined, must_be_place, must_be_web

MOST_WANTED = 3
MOST_COUNTED = 6


def must_be_counted(web):
    if not is_joined(web):
        raise NotJoined()
    must_be_at_most(web[0], MOST_COUNTED)


def must_be_wanted(web, place, m):
    must_be_web(web)
    must_be_place(web, place)
    must_be_within(m, 1, MOST_WANTED)


def grown(heap):
    # One stone more, at the last place that has stones or behind it: so each heap comes of one other alone.
    last = max([place for place, stones in enumerate(heap) if stones > 0], default=0)
    return [heap[:place] + (heap[place] + 1,) + heap[place + 1:] for place in range(last, len(heap))]


def leads_to(heap, steps, level):
    for step in steps:
        if heap[step[0]] >= 2 and stepped(heap, step) not in level:
            return False
    return True


def level_above(level, steps, place, m):
    # What fails, fails with a stone taken away, and behind each step, which leaves a stone fewer.
    above = {}
    for heap in level:
        for more in grown(heap):
            if more[place] < m and leads_to(more, steps, level):
                above[more] = True
    return above


def failing_levels(web, place, m, most):
    steps = all_steps(web)
    levels = []
    level = {tuple([0] * web[0]): True}
    while len(level) > 0 and len(levels) <= most:
        levels.append(level)
        level = level_above(level, steps, place, m)
    return levels


def fails(web, place, m, stones):
    must_be_wanted(web, place, m)
    must_be_within(stones, 0, MOST_STONES)
    must_be_counted(web)
    levels = failing_levels(web, place, m, stones)
    return sorted(levels[stones]) if stones < len(levels) else []


def all_failing(web, place, m):
    must_be_wanted(web, place, m)
    must_be_counted(web)
    return failing_levels(web, place, m, MOST_STONES)


def need(web, place, m):
    return len(all_failing(web, place, m))


def worst(web, place, m):
    return sorted(all_failing(web, place, m)[-1])


def need_all(web, m):
    must_be_web(web)
    # The first place's need refuses what is bad of the rest.
    needs = [need(web, place, m) for place in range(web[0])]
    greatest = max(needs)
    return (greatest, [place for place in range(web[0]) if needs[place] == greatest])


def fail_many(web, place, m):
    return sum([len(level) for level in all_failing(web, place, m)])
