"""Deeds told as tuples of a word and what the store's deed of this word is told."""

from wanehold.kinds import are_hours, is_name, is_whole
from wanehold.store import is_mark, put_fits

PUT = "put"
ASK = "ask"
TAKE = "take"
HIRE = "hire"
DISMISS = "dismiss"
MEND = "mend"
# How many things each word is told.
MANY = {"put": 4, "ask": 1, "take": 1, "hire": 2, "dismiss": 1, "mend": 1}


def is_deed(thing):
    """Tell whether it is such a tuple, with things that a store's deed takes; a number from 1 on to be dismissed."""
    if not isinstance(thing, tuple) or len(thing) == 0:
        return False
    word, *given = thing
    if not isinstance(word, str) or MANY.get(word) != len(given):
        return False
    first, last = given[0], given[-1]
    if word == PUT:
        return all(put_fits(*given))
    if word == HIRE:
        return is_name(first) and are_hours(last)
    if word == DISMISS:
        return is_whole(first) and first >= 1
    return is_mark(first) if word == MEND else is_name(first)


def do_deed(store, deed):
    """Do a deed to a store, and tell what it tells, or let it refuse it."""
    word, *given = deed
    if word == PUT:
        return store.put(*given)
    if word == ASK:
        return store.ask(*given)
    if word == TAKE:
        return store.take(*given)
    if word == HIRE:
        return store.hire(*given)
    if word == DISMISS:
        return store.dismiss(*given)
    return store.mend(*given)
