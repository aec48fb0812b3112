"""Whether two ways of waning can be told apart by turns and askings."""

from wanehold.checks import refuse_wrong
from wanehold.errors import TooMany
from wanehold.kinds import ASKING, TURN, is_strength, is_within
from wanehold.single import next_since, next_strength
from wanehold.wanes import is_level, is_wane

MOST_PAIRS = 400
ALIKE = "alike"
PARTED = "parted"


def alike(one, strength, other, far, *, most=200):
    """Tell ("alike", rows), or ("parted", row): the first row behind which just one of two things is there."""
    refuse_wrong([
        is_wane(one), is_strength(strength) and is_level(one, strength),
        is_wane(other), is_strength(far) and is_level(other, far), is_within(most, 1, MOST_PAIRS),
    ])
    pair = ((strength, 0), (far, 0))
    found = [("", *pair)]
    seen = {pair: True}
    at = 0
    while at < len(found):
        row, state, beside = found[at]
        at += 1
        # Pairs come in the order of their first rows, as a turn is tried ahead of an asking.
        for sign in (TURN, ASKING):
            pair = (_behind(one, state, sign), _behind(other, beside, sign))
            if pair in seen:
                continue
            if len(found) == most:
                raise TooMany(most)
            if pair.count(None) == 1:
                return PARTED, row + sign
            seen[pair] = True
            found.append((row + sign, *pair))
    return ALIKE, found


def _behind(wane, state, sign):
    """Tell the state behind a sign, None where it is gone."""
    if state is None:
        return None
    strength, since = state
    strength = next_strength(wane, strength, since, sign)
    return None if strength == 0 else (strength, wane.phase_behind(next_since(wane, since, sign)))
