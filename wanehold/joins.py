"""Two stores made one, and one made two."""

from wanehold.checks import refuse_wrong
from wanehold.errors import Busy, Full, Gone, There, TooMany, Unlike
from wanehold.kinds import is_name
from wanehold.shelf import Shelf
from wanehold.store import MOST_ASKERS, MOST_THINGS, are_rooms, is_store, store_of


def join_stores(one, other):
    """Tell a new store that has together what the two have, room by room."""
    refuse_wrong([is_store(one), is_store(other)])
    shelf, beside = one.shelf, other.shelf
    if _likeness(shelf) != _likeness(beside):
        raise Unlike()
    if shelf.mark is not None or beside.mark is not None:
        raise Busy()
    for name in sorted(shelf.things):
        if name in beside.things:
            raise There(name)
    if len(shelf.things) + len(beside.things) > MOST_THINGS:
        raise TooMany(MOST_THINGS)
    if len(shelf.plans) + len(beside.plans) > MOST_ASKERS:
        raise TooMany(MOST_ASKERS)
    return store_of(_joined(shelf, beside))


def part_store(store, names, rooms):
    """Tell a tuple of two new stores: the named things in rooms as told, the others in what is left."""
    refuse_wrong([is_store(store), _are_unlike_names(names), is_store(store) and _are_less(rooms, store.shelf.limits)])
    shelf = store.shelf
    for name in names:
        if name not in shelf.things:
            raise Gone(name)
    if shelf.mark is not None:
        raise Busy()
    others = [name for name in sorted(shelf.things) if name not in names]
    named = _part(shelf, names, rooms)
    rest = _part(shelf, others, [limit - room for limit, room in zip(shelf.limits, rooms)])
    for place in range(len(rooms)):
        if named.sum_in(place) > named.limits[place] or rest.sum_in(place) > rest.limits[place]:
            raise Full(place)
    _number(named, [plan for plan in shelf.plans if plan[1] in names])
    _number(rest, [plan for plan in shelf.plans if plan[1] not in names])
    rest.traces = dict(shelf.traces)
    return store_of(named), store_of(rest)


def _are_unlike_names(thing):
    if not isinstance(thing, list) or not all([is_name(name) for name in thing]):
        return False
    return len(set(thing)) == len(thing)


def _are_less(thing, limits):
    """Tell whether it is a list of as many rooms, each less than the one at its place."""
    if not are_rooms(thing) or len(thing) != len(limits):
        return False
    return all([room < limit for room, limit in zip(thing, limits)])


def _likeness(shelf):
    """Tell what two shelves that are joined have in common."""
    return shelf.moment, len(shelf.limits), shelf.shifts, shelf.per_asking, shelf.per_turn


def _shelf_like(shelf, limits):
    """Tell an empty shelf of the same moment, stirs, grain and fade."""
    other = Shelf(limits, shelf.shifts, shelf.per_asking, shelf.per_turn)
    other.moment = shelf.moment
    return other


def _joined(shelf, beside):
    both = _shelf_like(shelf, [limit + more for limit, more in zip(shelf.limits, beside.limits)])
    both.things = {thing.name: thing.doubled() for thing in shelf.by_names() + beside.by_names()}
    for name in [*shelf.traces, *beside.traces]:
        trace = max(shelf.trace_of(name), beside.trace_of(name))
        if trace > 0 and name not in both.things:
            # What is greater now is so at each later moment, as both fade alike.
            both.traces[name] = (trace, both.moment)
    _number(both, shelf.plans + beside.plans)
    return both


def _part(shelf, names, limits):
    part = _shelf_like(shelf, limits)
    part.things = {name: shelf.things[name].doubled() for name in names}
    return part


def _number(shelf, plans):
    """Give a shelf these askers, numbered from 1 on anew."""
    shelf.plans = [(place + 1, plan[1], plan[2]) for place, plan in enumerate(plans)]
    shelf.hired = len(plans)
