"""Kinds of webs: rows, rings, cubes, full webs, stars and trees, each told by a short tuple."""

from twoforone.bounds import is_place, is_place_count, is_whole_within
from twoforone.errors import NoKind

SIZES = {"row": (1, 8), "ring": (3, 8), "cube": (0, 3), "full": (1, 8), "star": (1, 7)}


def is_over(thing):
    if not isinstance(thing, tuple) or not is_place_count(len(thing)):
        return False
    if thing[0] is not None:
        return False
    return all([is_place(place, thing[place]) for place in range(1, len(thing))])


def kind_good(thing):
    if not isinstance(thing, tuple) or len(thing) != 2:
        return False
    word = thing[0]
    # Only a text may be looked up: lists and dicts can't stand as keys.
    if not isinstance(word, str):
        return False
    if word == "tree":
        return is_over(thing[1])
    return word in SIZES and is_whole_within(thing[1], SIZES[word][0], SIZES[word][1])


def places_of(word, size):
    if word == "cube":
        return (1, 2, 4, 8)[size]
    if word == "star":
        return size + 1
    if word == "tree":
        return len(size)
    return size


def are_tied(word, size, one, other):
    # One is always the lesser place of both.
    if word == "row":
        return other == one + 1
    if word == "ring":
        return other == one + 1 or (one == 0 and other == size - 1)
    if word == "cube":
        return one ^ other in (1, 2, 4)
    if word == "star":
        return one == 0
    if word == "tree":
        return size[other] == one
    return True


def web_for(kind):
    if not kind_good(kind):
        raise NoKind()
    word = kind[0]
    size = kind[1]
    many = places_of(word, size)
    ties = []
    for one in range(many):
        ties.extend([(one, other) for other in range(one + 1, many) if are_tied(word, size, one, other)])
    return (many, tuple(ties))
