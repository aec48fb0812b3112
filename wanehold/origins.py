"""Origins: with what strengths things may have begun that are seen behind a row."""

from wanehold.checks import refuse_wrong
from wanehold.effects import row_effect
from wanehold.errors import NoNumber, NotOne
from wanehold.kinds import BILLION, is_moment, is_row, is_strength, is_whole, is_within
from wanehold.wanes import is_wane

MOST_PARTS = 8
THERE = "there"


class Origins:
    """The lists of strengths at first, one for each part, that what is seen lets."""

    def __init__(self, parts):
        refuse_wrong([_are_parts(parts)])
        self._spans = tuple([_span(*part) for part in parts])

    def spans(self):
        """Tell for each part the least and the greatest strength that fit, None where none does."""
        return list(self._spans)

    def many(self):
        """Tell how many lists fit."""
        product = 1
        for span in self._spans:
            product *= _width(span)
        return product

    def list_of(self, number):
        """Tell the list with this number, from 0 on."""
        refuse_wrong([is_whole(number) and number >= 0])
        if number >= self.many():
            raise NoNumber(number)
        strengths = []
        for least, greatest in self._spans[::-1]:
            number, place = divmod(number, greatest - least + 1)
            strengths.append(least + place)
        return strengths[::-1]

    def number_of(self, strengths):
        """Tell the number of a list."""
        refuse_wrong([_are_strengths(strengths, len(self._spans))])
        number = 0
        for strength, span in zip(strengths, self._spans):
            if span is None or not span[0] <= strength <= span[1]:
                raise NotOne()
            number = number * _width(span) + strength - span[0]
        return number


def _are_parts(thing):
    if not isinstance(thing, list) or not 1 <= len(thing) <= MOST_PARTS:
        return False
    return all([_is_part(part) for part in thing])


def _is_part(thing):
    if not isinstance(thing, tuple) or len(thing) != 6:
        return False
    wane, row, since, low, high, seen = thing
    if not is_wane(wane) or not is_row(row) or not is_moment(since):
        return False
    if not is_within(low, 1, wane.cap()) or not is_within(high, low, wane.cap()):
        return False
    return _is_seen(seen)


def _is_seen(thing):
    if isinstance(thing, str):
        return thing == THERE
    return thing is None or is_within(thing, 0, BILLION)


def _are_strengths(thing, many):
    return isinstance(thing, list) and len(thing) == many and all([is_strength(strength) for strength in thing])


def _span(wane, row, since, low, high, seen):
    """Tell the least and the greatest strength from low to high that is seen so behind the row, None if none is."""
    if seen is not None:
        least, greatest = _bounds(row_effect(wane, row, since), wane.cap(), seen)
        low, high = max(low, least), min(high, greatest)
    return None if low > high else (low, high)


def _bounds(effect, cap, seen):
    """Tell from which to which strength, up to the cap, an effect makes what is seen."""
    # Through no effect even the cap goes: just above it are those that don't.
    least = cap + 1 if effect is None else effect[0]
    if seen == 0:
        return 1, least - 1
    if effect is None or seen == THERE:
        return least, cap
    _, add, by, top = effect
    if seen > top:
        return cap + 1, cap
    return max(least, seen * by - add), cap if seen == top else seen * by - add + by - 1


def _width(span):
    return 0 if span is None else span[1] - span[0] + 1
