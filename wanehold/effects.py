"""Effects: what a row makes of each strength, told by four numbers."""

from wanehold.checks import refuse_wrong
from wanehold.kinds import BILLION, TURN, is_moment, is_row, is_whole, is_within
from wanehold.single import next_since
from wanehold.wanes import is_wane

# 10 ** 400: numbers with more figures than 400 begin here.
BEYOND_FIGURES = (10 ** 50) ** 8


def effect_of(wane, row, *, since=0):
    """Tell the effect of a row, None where even the cap goes."""
    refuse_wrong([is_wane(wane), is_row(row), is_moment(since)])
    return row_effect(wane, row, since)


def joined(one, other):
    """Tell the effect of two, one behind the other."""
    refuse_wrong([is_effect(one), is_effect(other)])
    return chained(one, other)


def passed(effect, strength):
    """Tell what an effect, or None, makes of a strength, or 0."""
    refuse_wrong([effect is None or is_effect(effect), is_within(strength, 0, BILLION)])
    return through(effect, strength)


def is_effect(thing):
    """Tell whether it is a tuple of four whole numbers as an effect may have when it is handed in."""
    if not isinstance(thing, tuple) or len(thing) != 4:
        return False
    if not all([is_whole(number) and -BEYOND_FIGURES < number < BEYOND_FIGURES for number in thing]):
        return False
    least, _, by, top = thing
    return least >= 1 and by >= 1 and top >= 1


def no_effect(wane):
    """Tell the effect of no signs."""
    return 1, 0, 1, wane.cap()


def turn_effect(wane, since):
    """Tell the effect of one turn behind a since, None where even the cap goes."""
    by, take = wane.step_behind(since)
    top = wane.cap() // by - take
    if top < 1:
        return None
    return by * (take + 1), -(by * take), by, top


def shift_effect(wane, shift):
    """Tell the effect of a shift, up to the cap: of an asking's lift, of a stir; None where even the cap goes."""
    top = min(wane.cap(), wane.cap() + shift)
    if top < 1:
        return None
    return max(1, 1 - shift), shift, 1, top


def row_effect(wane, row, since):
    """Tell the effect of a row of any length, by a since of any size."""
    effect = no_effect(wane)
    for sign in row:
        if sign == TURN:
            effect = chained(effect, turn_effect(wane, since))
        else:
            effect = chained(effect, shift_effect(wane, wane.lift()))
        since = next_since(wane, since, sign)
    return effect


def chained(one, other):
    """Tell the effect of two, each perhaps None, one behind the other."""
    if one is None or other is None:
        return None
    least, add, by, top = one
    next_least, next_add, next_by, next_top = other
    if top < next_least:
        return None
    return (
        max(least, next_least * by - add), add + next_add * by, by * next_by,
        min(next_top, (top + next_add) // next_by),
    )


def through(effect, strength):
    """Tell what an effect of numbers of any size, or None, makes of a strength, or 0."""
    if effect is None:
        return 0
    least, add, by, top = effect
    if strength < least:
        return 0
    return min(top, (strength + add) // by)
