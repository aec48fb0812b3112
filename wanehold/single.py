"""A thing alone: what turns and askings make of its strength and its since."""

from wanehold.checks import refuse_wrong
from wanehold.errors import TooMany
from wanehold.kinds import ASKING, MOST_SIGNS, TURN, are_hours, hour_of, is_moment, is_row, is_within
from wanehold.wanes import is_level, is_wane

MOST_PLANS = 8
MOST_TURNS = 200


def waned(wane, strength, since):
    """Tell what one turn makes of a strength."""
    refuse_wrong([is_wane(wane), is_level(wane, strength), is_moment(since)])
    return behind_turn(wane, strength, since)


def lifted(wane, strength):
    """Tell what one asking makes of a strength."""
    refuse_wrong([is_wane(wane), is_level(wane, strength)])
    return behind_asking(wane, strength)


def along(wane, strength, row, *, since=0):
    """List the tuples (strength, since) behind none, one, two, .. signs of a row."""
    refuse_wrong([is_wane(wane), is_level(wane, strength), is_row(row), is_moment(since)])
    states = [(strength, since)]
    for sign in row:
        strength = next_strength(wane, strength, since, sign)
        since = next_since(wane, since, sign)
        states.append((strength, since))
    return states


def since_behind(wane, row, *, since=0):
    """Tell the since behind a row."""
    refuse_wrong([is_wane(wane), is_row(row), is_moment(since)])
    for sign in row:
        since = next_since(wane, since, sign)
    return since


def row_of(plans, begin, turns):
    """Tell the row that a plan makes in so many turns behind a moment."""
    refuse_wrong([_are_plans(plans), is_moment(begin), is_within(turns, 0, MOST_TURNS)])
    row = "".join([_turn_and_askings(plans, begin + turn + 1) for turn in range(turns)])
    if len(row) > MOST_SIGNS:
        raise TooMany(MOST_SIGNS)
    return row


def next_strength(wane, strength, since, sign):
    """Tell the strength behind a sign, by a since of any size."""
    if sign == TURN:
        return behind_turn(wane, strength, since)
    return behind_asking(wane, strength)


def next_since(wane, since, sign):
    """Tell the since behind a sign, by a since of any size."""
    if sign == TURN:
        return since + 1
    return 0 if wane.is_anew() else since


def behind_turn(wane, strength, since):
    """Tell the strength behind a turn, by a since of any size."""
    by, take = wane.step_behind(since)
    return max(0, strength // by - take)


def behind_asking(wane, strength):
    """Tell the strength behind an asking."""
    # What is gone stays gone, however much an asking lifts.
    if strength == 0:
        return 0
    return min(strength + wane.lift(), wane.cap())


def _are_plans(thing):
    if not isinstance(thing, list) or len(thing) > MOST_PLANS:
        return False
    return all([are_hours(hours) for hours in thing])


def _turn_and_askings(plans, moment):
    return TURN + "".join([ASKING for hours in plans if hour_of(moment) in hours])
