"""How to ask as seldom as can be and keep some names for ever, or that they can't be kept."""

from math import gcd

from wanehold.checks import refuse_wrong
from wanehold.errors import Busy, Gone
from wanehold.game import game_of
from wanehold.kinds import is_name, is_within
from wanehold.store import is_store
from wanehold.ways import circle_along, ends_of, least_share, moves_along, numbers_along, path_to, without

MOST_STATES = 400
KEPT = "kept"
KEEPS = "keeps"
LOST = "lost"


def keep(store, names, *, most=120):
    """Tell ("kept", lead, round, paper): how names are kept by the fewest askings; or ("lost", paper)."""
    refuse_wrong([is_store(store), _are_names(names), is_within(most, 1, MOST_STATES)])
    shelf = store.shelf
    if shelf.plans or shelf.mark is not None:
        raise Busy()
    for name in names:
        if name not in shelf.things:
            raise Gone(name)
    states, ways = game_of(shelf, names, most)
    ends = ends_of(ways)
    lost = [(states[place], LOST, number) for place, number in ends.items()]
    if 0 in ends:
        return LOST, lost
    lead, circle, numbers = _thriftiest(without(ways, ends))
    kept = [state for place, state in enumerate(states) if place not in ends]
    return KEPT, lead, circle, lost + [(state, KEEPS, number) for state, number in zip(kept, numbers)]


def _are_names(thing):
    return isinstance(thing, list) and all([is_name(name) for name in thing])


def _thriftiest(ways):
    """Tell the moves to a circle with the fewest askings by its moves, its own, and the numbers that show it."""
    askings, moves = least_share(ways)
    common = gcd(askings, moves)
    askings, moves = askings // common, moves // common
    numbers = numbers_along(ways, askings, moves)
    circle = circle_along(ways, numbers, askings, moves)
    # The circle may have more moves than the share in lowest terms, but as many times both.
    times = len(circle) // moves
    lead = moves_along(ways, path_to(ways, circle[0]))
    return lead, moves_along(ways, circle + circle[:1]), [times * number for number in numbers]
