"""Webs: places, the ties between them, and what can be come to from where."""

from twoforone.bounds import is_place, is_place_count
from twoforone.errors import NoPlace, NoWeb


def is_pair(many, thing):
    # Both parts are known to be places ahead of being compared: other things may not compare at all.
    if not isinstance(thing, tuple) or len(thing) != 2:
        return False
    return is_place(many, thing[0]) and is_place(many, thing[1]) and thing[0] != thing[1]


def are_ties(many, thing):
    if not isinstance(thing, tuple):
        return False
    for at, tie in enumerate(thing):
        if not is_pair(many, tie) or tie[0] > tie[1]:
            return False
        if at > 0 and tie <= thing[at - 1]:
            return False
    return True


def is_web(thing):
    if not isinstance(thing, tuple) or len(thing) != 2:
        return False
    return is_place_count(thing[0]) and are_ties(thing[0], thing[1])


def must_be_web(thing):
    if not is_web(thing):
        raise NoWeb(-1)


def must_be_place(web, thing):
    if not is_place(web[0], thing):
        raise NoPlace()


def tie_between(one, other):
    return (min(one, other), max(one, other))


def web_of(many, things):
    if not is_place_count(many):
        raise NoWeb(-1)
    told = {}
    for at, thing in enumerate(things):
        if not is_pair(many, thing):
            raise NoWeb(at)
        tie = tie_between(thing[0], thing[1])
        if tie in told:
            raise NoWeb(at)
        told[tie] = True
    return (many, tuple(sorted(told)))


def neighbours(web, place):
    # Unlike tied_to it looks through nothing again: whoever calls it has done so (ties_away likewise).
    return [other for other in range(web[0]) if tie_between(place, other) in web[1]]


def ties_away(web, start):
    away = [None] * web[0]
    away[start] = 0
    rim = [start]
    while len(rim) > 0:
        further = []
        for place in rim:
            for other in neighbours(web, place):
                if away[other] is None:
                    away[other] = away[place] + 1
                    further.append(other)
        rim = further
    return away


def tied_to(web, place):
    must_be_web(web)
    must_be_place(web, place)
    return neighbours(web, place)


def far(web, one, other):
    must_be_web(web)
    must_be_place(web, one)
    must_be_place(web, other)
    return ties_away(web, one)[other]


def pieces(web):
    must_be_web(web)
    found = []
    for start in range(web[0]):
        away = ties_away(web, start)
        piece = tuple([place for place in range(web[0]) if away[place] is not None])
        # Each piece is told once, by its least place.
        if piece[0] == start:
            found.append(piece)
    return found


def is_joined(web):
    return len(pieces(web)) == 1


def is_tree(web):
    return is_joined(web) and len(web[1]) == web[0] - 1
