"""Sums over things that are to be kept: what they need in a day, and within how many days one of them is gone."""

from math import gcd

from wanehold.checks import refuse_wrong
from wanehold.kinds import DAY, is_strength
from wanehold.wanes import is_level, is_wane

MOST_PARTS = 8


def day_need(parts):
    """Tell the sum of what a day takes from each part, divided by its lift, in lowest terms."""
    refuse_wrong([_are_parts(parts)])
    return _sum_of([(_day_take(wane), wane.lift()) for wane, _ in parts])


def lost_within(parts):
    """Tell within how many days one of the parts is gone whatever is asked; None where the sums don't show it."""
    refuse_wrong([_are_parts(parts)])
    top, bottom = _sum_of([(_day_take(wane), wane.lift()) for wane, _ in parts])
    short = top - DAY * bottom
    if short <= 0:
        return None
    there, by = _sum_of([(strength, wane.lift()) for wane, strength in parts])
    # The days by which there / by is less than the days times short / bottom.
    return there * bottom // (by * short) + 1


def _are_parts(thing):
    if not isinstance(thing, list) or not 1 <= len(thing) <= MOST_PARTS:
        return False
    return all([_is_part(part) for part in thing])


def _is_part(thing):
    if not isinstance(thing, tuple) or len(thing) != 2:
        return False
    wane, strength = thing
    if not is_wane(wane) or wane.is_anew() or wane.head() or wane.lift() < 1:
        return False
    return all([by == 1 for by, _ in wane.tail()]) and is_strength(strength) and is_level(wane, strength)


def _day_take(wane):
    """Tell what the steps of a day take: the tail's, as often as it fits into the day."""
    tail = wane.tail()
    return sum([take for _, take in tail]) * (DAY // len(tail))


def _sum_of(shares):
    """Tell the sum of tuples (top, bottom) as one in lowest terms."""
    top, bottom = 0, 1
    for other, by in shares:
        top, bottom = top * by + other * bottom, bottom * by
    common = gcd(top, bottom)
    return top // common, bottom // common
