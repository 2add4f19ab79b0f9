"""What several modules ask of a single thing: whether it is a whole number, and within which bounds."""

from twoforone.errors import NoNumber, TooGreat

MOST_PLACES = 8
MOST_STONES = 300


def is_whole(thing):
    # Python counts truths among its ints; here they are no numbers.
    return isinstance(thing, int) and not isinstance(thing, bool)


def is_whole_within(thing, least, most):
    return is_whole(thing) and least <= thing <= most


def must_be_within(thing, least, most):
    if not is_whole_within(thing, least, most):
        raise NoNumber()


def must_be_at_most(many, most):
    if many > most:
        raise TooGreat(many, most)


def is_place_count(thing):
    return is_whole_within(thing, 1, MOST_PLACES)


def is_place(many, thing):
    return is_whole_within(thing, 0, many - 1)


def are_counts(many, thing):
    # Stones, weights, marks and the papers' numbers all have this form: one number, from nought on, for each place.
    if not isinstance(thing, tuple) or len(thing) != many:
        return False
    return all([is_whole(part) and part >= 0 for part in thing])


def doubled(number, times):
    for turn in range(times):
        number = 2 * number
    return number
