"""Rounds: rows that a thing goes through again and again, and what becomes of it."""

from wanehold.checks import refuse_wrong
from wanehold.effects import row_effect
from wanehold.kinds import ASKING, MOST_MOMENT, TURN, is_moment, is_row, is_strength
from wanehold.repeats import settled, strengths_along, through_all
from wanehold.single import next_since, next_strength
from wanehold.wanes import is_level, is_wane

MOST_ROUND = 48


def behind(wane, strength, row, times, *, since=0):
    """Tell the tuple (strength, since) behind a round gone through so many times."""
    refuse_wrong([
        is_wane(wane), is_level(wane, strength), _is_round(row), is_moment(times), is_moment(since),
    ])
    ahead, cycle = _round_effects(wane, row, since)
    return _strength_behind(ahead, cycle, strength, times), _since_behind(wane, row, times, since)


def fate(wane, strength, row, *, since=0):
    """Tell in which round, at which sign a thing goes, or from which round on its strengths come again."""
    refuse_wrong([
        is_wane(wane), is_strength(strength) and is_level(wane, strength), _is_round(row), is_moment(since),
    ])
    ahead, cycle = _round_effects(wane, row, since)
    first = through_all(ahead, strength)
    last, cycles = settled(cycle, first, MOST_MOMENT)
    # One cycle, or the rounds ahead, before it has its last strength.
    times = len(ahead) + (cycles - 1) * len(cycle) if cycles > 0 else 0
    if last == 0:
        strength = _strength_behind(ahead, cycle, strength, times)
        return _going(wane, strength, row, times, _since_behind(wane, row, times, since))
    lasting = strengths_along(cycle[:-1], last)
    if cycles == 0:
        return "stays", len(ahead), lasting
    place = _first_alike(strengths_along(cycle, _strength_behind(ahead, cycle, strength, times)), lasting)
    return "stays", times + place, lasting[place:] + lasting[:place]


def stays_from(wane, row, *, since=0):
    """Tell the least strength from which a thing stays, None where it goes with the cap, too."""
    refuse_wrong([is_wane(wane), _is_round(row), is_moment(since)])
    ahead, cycle = _round_effects(wane, row, since)
    low, high = 1, wane.cap()
    if not _stays(ahead, cycle, high):
        return None
    while low < high:
        middle = (low + high) // 2
        if _stays(ahead, cycle, middle):
            high = middle
        else:
            low = middle + 1
    return low


def _is_round(thing):
    return is_row(thing) and 1 <= len(thing) <= MOST_ROUND


def _round_effects(wane, row, since):
    """Tell the effects of the rounds ahead of the first phase that comes again, and of those from there till it does.

    What a round makes of a strength hangs on the phase at its beginning alone, and of phases there are few.
    """
    places = {}
    effects = []
    phase = wane.phase_behind(since)
    while phase not in places:
        places[phase] = len(effects)
        effects.append(row_effect(wane, row, since))
        since = _since_behind(wane, row, 1, since)
        phase = wane.phase_behind(since)
    lead = places[phase]
    return effects[:lead], effects[lead:]


def _since_behind(wane, row, times, since):
    if times == 0:
        return since
    if wane.is_anew() and ASKING in row:
        return len(row) - 1 - row.rfind(ASKING)
    return since + times * row.count(TURN)


def _strength_behind(ahead, cycle, strength, times):
    if times <= len(ahead):
        return through_all(ahead[:times], strength)
    cycles, rounds = divmod(times - len(ahead), len(cycle))
    strength, _ = settled(cycle, through_all(ahead, strength), cycles)
    return through_all(cycle[:rounds], strength)


def _stays(ahead, cycle, strength):
    last, _ = settled(cycle, through_all(ahead, strength), MOST_MOMENT)
    return last > 0


def _going(wane, strength, row, times, since):
    """Tell where a thing goes that is there as the round number times begins, and goes soon."""
    while True:
        for at, sign in enumerate(row):
            strength = next_strength(wane, strength, since, sign)
            since = next_since(wane, since, sign)
            if strength == 0:
                return "goes", times, at
        times += 1


def _first_alike(strengths, lasting):
    """Tell the first place at which the strengths of a cycle, and of the next one's beginning, are the lasting ones."""
    place = 0
    while strengths[place] != lasting[place % len(lasting)]:
        place += 1
    return place
