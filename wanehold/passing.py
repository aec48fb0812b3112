"""Passing a shelf on by many turns, as if each of them had been done."""

from wanehold.days import day_courses, even_days, leap
from wanehold.errors import TooFar
from wanehold.kinds import DAY, hour_of

# So many turns are always done with a mender.
MOST_MENDED = 2000


def pass_free(shelf, turns):
    """Pass a shelf without a mender on by so many turns."""
    while turns >= DAY:
        turns -= stride(shelf, turns)
    shelf.turns(turns)


def stride(shelf, turns):
    """Pass a shelf without a mender on by some whole days of so many turns, a day or more; tell their turns.

    Unless the days are alike for ever, no leap ends where each later day is like the last one.
    """
    courses = day_courses(shelf)
    days = min(even_days(shelf, courses), turns // DAY)
    if days == 0:
        shelf.turns(DAY)
        return DAY
    leap(shelf, courses, days)
    return days * DAY


def passed_mended(shelf, turns):
    """Tell another shelf: this one, which may have a mender, passed on by more than MOST_MENDED turns, or TooFar."""
    ahead = shelf.doubled()
    seen = {}
    for done in range(MOST_MENDED + 1):
        key = (hour_of(ahead.moment), ahead.states())
        if key in seen:
            first, askings = seen[key]
            ahead.turns(_repeat(ahead, turns - done, done - first, askings))
            return ahead
        seen[key] = (done, {name: thing.asked for name, thing in ahead.things.items()})
        ahead.turn()
    raise TooFar(MOST_MENDED)


def _repeat(shelf, turns, period, askings):
    """Pass a shelf on by all whole periods in the turns, and tell how many turns are left.

    Its hour and states were the same a period ago, and its things were asked for then so often as told: each
    period does again what the last one did.
    """
    times = turns // period
    for name, thing in shelf.things.items():
        many = thing.asked - askings[name]
        thing.asked += times * many
        if many == 0 or not thing.wane.is_anew():
            thing.since += times * period
    shelf.moment += times * period
    return turns % period
