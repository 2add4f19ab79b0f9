"""What several modules ask of a single thing: whether it is a whole number, and within which bounds."""

MOST_PLACES = 8


def is_whole(thing):
    # Python counts truths among its ints; here they are no numbers.
    return isinstance(thing, int) and not isinstance(thing, bool)


def is_whole_within(thing, least, most):
    return is_whole(thing) and least <= thing <= most


def is_place_count(thing):
    return is_whole_within(thing, 1, MOST_PLACES)


def is_place(many, thing):
    return is_whole_within(thing, 0, many - 1)
