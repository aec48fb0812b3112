"""The game of keeping some names, one asking a turn: its states, and the ways from each to the next ones."""

from wanehold.errors import TooMany
from wanehold.story import Story


def game_of(shelf, names, most):
    """Tell the tuple (states, ways) of the states that come by moves that don't lose, the present one first.

    ways has for each state a dict: by the places of the next states, a move that leads there, which is
    None where no asking leads there, too. Of more states than most it is refused.
    """
    bare = _without_past(shelf)
    states = [shelf.states()]
    places = {states[0]: 0}
    ways = []
    while len(ways) < len(states):
        ahead = {}
        for move, state in _moves(bare, states[len(ways)], names):
            if state not in places:
                if len(states) == most:
                    raise TooMany(most)
                places[state] = len(states)
                states.append(state)
            ahead.setdefault(places[state], move)
        ways.append(ahead)
    return states, ways


def _without_past(shelf):
    """Tell a shelf alike without what the game doesn't look at, so that it is doubled at little cost."""
    bare = shelf.doubled()
    bare.rows = Story()
    bare.traces = {}
    return bare


def _moves(shelf, state, names):
    """List the tuples (move, state behind it) of the moves that don't lose, that without an asking first."""
    waned = _in_state(shelf, state)
    waned.wane_all()
    found = []
    for move in [None] + sorted(waned.things):
        behind = waned.doubled()
        if move is not None:
            behind.ask_for(move)
        behind.crowd()
        if all([name in behind.things for name in names]):
            found.append((move, behind.states()))
    return found


def _in_state(shelf, state):
    """Tell a shelf alike whose things are in this state; where the phase is the since, the same steps come."""
    other = shelf.doubled()
    other.things = {}
    for name, room, strength, phase in state:
        thing = shelf.things[name].doubled()
        thing.room = room
        thing.strength = strength
        thing.since = phase
        other.things[name] = thing
    return other
