"""The kinds of things that are handed in, asked of whatever there is."""

BILLION = 10 ** 9
MOST_ROOM = 10 ** 12
MOST_MOMENT = 10 ** 30
MOST_BY = 9
MOST_SORT = 9
MOST_LETTERS = 8
MOST_SIGNS = 200
DAY = 24
LETTERS = "abcdefghijklmnopqrstuvwxyz"
TURN = "."
ASKING = "a"


def is_whole(thing):
    """Tell whether it is a whole number: an int that is no truth."""
    return isinstance(thing, int) and not isinstance(thing, bool)


def is_within(thing, least, most):
    """Tell whether it is a whole number from the one to the other."""
    return is_whole(thing) and least <= thing <= most


def is_name(thing):
    """Tell whether it is a text of one to eight small letters."""
    if not isinstance(thing, str) or not 1 <= len(thing) <= MOST_LETTERS:
        return False
    return all([sign in LETTERS for sign in thing])


def is_sort(thing):
    """Tell whether it is a whole number from 0 to 9."""
    return is_within(thing, 0, MOST_SORT)


def is_strength(thing):
    """Tell whether it is a whole number from 1 to 10 ** 9."""
    return is_within(thing, 1, BILLION)


def is_size(thing):
    """Tell whether it is a whole number from 0 to 10 ** 9."""
    return is_within(thing, 0, BILLION)


def is_shift(thing):
    """Tell whether it is a whole number from -(10 ** 9) to 10 ** 9."""
    return is_within(thing, -BILLION, BILLION)


def is_room(thing):
    """Tell whether it is a whole number from 1 to 10 ** 12."""
    return is_within(thing, 1, MOST_ROOM)


def is_moment(thing):
    """Tell whether it is a whole number from 0 to 10 ** 30."""
    return is_within(thing, 0, MOST_MOMENT)


def are_hours(thing):
    """Tell whether it is a tuple of one or more numbers of hours, rising, none twice."""
    if not isinstance(thing, tuple) or not 1 <= len(thing) <= DAY:
        return False
    if not all([is_within(hour, 0, DAY - 1) for hour in thing]):
        return False
    return all([one < other for one, other in zip(thing, thing[1:])])


def is_row(thing):
    """Tell whether it is a text of at most 200 signs, each a turn or an asking."""
    if not isinstance(thing, str) or len(thing) > MOST_SIGNS:
        return False
    return all([sign in (TURN, ASKING) for sign in thing])


def is_step(thing):
    """Tell whether it is a tuple (by, take), by from 1 to 9, take a size."""
    if not isinstance(thing, tuple) or len(thing) != 2:
        return False
    by, take = thing
    return is_within(by, 1, MOST_BY) and is_size(take)


def hour_of(moment):
    """Tell the hour of a moment."""
    return moment % DAY
