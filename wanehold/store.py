"""Stores: things, askers and a mender, told and passed on turn by turn."""

from wanehold.checks import refuse_wrong
from wanehold.errors import Gone, NoAsker, There, TooMany
from wanehold.kinds import (
    BILLION, are_hours, is_moment, is_name, is_room, is_shift, is_size, is_sort, is_strength, is_whole,
    is_within,
)
from wanehold.passing import MOST_MENDED, pass_free, passed_mended
from wanehold.shelf import Shelf, Thing
from wanehold.wanes import is_level, is_wane

MOST_ROOMS = 4
MOST_THINGS = 8
MOST_ASKERS = 8
SORTS = 10


class Store:
    """A store; what it keeps is its shelf, which none but the package looks at."""

    def __init__(self, rooms, *, stirs=None, grain=0, fade=1):
        refuse_wrong([
            are_rooms(rooms), stirs is None or are_stirs(stirs), is_size(grain), is_within(fade, 1, BILLION),
        ])
        self.shelf = Shelf(rooms, [0] * SORTS if stirs is None else stirs, grain, fade)

    def put(self, name, sort, wane, strength):
        """Put a thing into the first room."""
        refuse_wrong(put_fits(name, sort, wane, strength))
        if name in self.shelf.things:
            raise There(name)
        if len(self.shelf.things) >= MOST_THINGS:
            raise TooMany(MOST_THINGS)
        self.shelf.put_in(Thing(name, sort, wane, strength))

    def ask(self, name):
        """Ask for a name that is there."""
        self._refuse_gone(name)
        self.shelf.ask_for(name)
        self.shelf.crowd()

    def take(self, name):
        """Take a name out."""
        self._refuse_gone(name)
        self.shelf.take_out(self.shelf.things[name])

    def mend(self, mark):
        """Have a mender with this mark, or none."""
        refuse_wrong([is_mark(mark)])
        shelf = self.shelf
        shelf.mark = mark

    def pass_on(self, turns):
        """Let so many turns pass."""
        refuse_wrong([is_moment(turns)])
        if self.shelf.mark is None:
            pass_free(self.shelf, turns)
        elif turns <= MOST_MENDED:
            self.shelf.turns(turns)
        else:
            self.shelf = passed_mended(self.shelf, turns)

    def hire(self, name, hours):
        """Hire an asker for a name, there or not, and tell its number."""
        refuse_wrong([is_name(name), are_hours(hours)])
        shelf = self.shelf
        if len(shelf.plans) >= MOST_ASKERS:
            raise TooMany(MOST_ASKERS)
        shelf.hired += 1
        shelf.plans.append((shelf.hired, name, hours))
        return shelf.hired

    def dismiss(self, number):
        """Dismiss the asker with this number."""
        shelf = self.shelf
        kept = [plan[0] for plan in shelf.plans]
        if not is_whole(number) or number not in kept:
            raise NoAsker(number)
        del shelf.plans[kept.index(number)]

    def now(self):
        """Tell the moment."""
        return self.shelf.moment

    def rooms(self):
        """Tell how much strength each room holds."""
        return list(self.shelf.limits)

    def stirs(self):
        """Tell the stirs of the ten sorts."""
        return list(self.shelf.shifts)

    def grain(self):
        """Tell what each asking adds to a trace."""
        return self.shelf.per_asking

    def fade(self):
        """Tell what a trace loses in a turn."""
        return self.shelf.per_turn

    def there(self):
        """Tell the names that are there."""
        return sorted(self.shelf.things)

    def thing(self, name):
        """Tell room, sort, strength, since and how often it was asked for, of a name that is there."""
        self._refuse_gone(name)
        thing = self.shelf.things[name]
        return thing.room, thing.group, thing.strength, thing.since, thing.asked

    def wane_of(self, name):
        """Tell the wane of a name that is there."""
        self._refuse_gone(name)
        return self.shelf.things[name].wane

    def total(self, room):
        """Tell the strengths in a room together."""
        refuse_wrong([is_within(room, 0, len(self.shelf.limits) - 1)])
        return self.shelf.sum_in(room)

    def trace(self, name):
        """Tell the trace of a name."""
        refuse_wrong([is_name(name)])
        return self.shelf.trace_of(name)

    def askers(self):
        """Tell the askers: tuples (number, name, hours)."""
        return list(self.shelf.plans)

    def mender(self):
        """Tell the mender's mark, None where there is no mender."""
        return self.shelf.mark

    def state(self):
        """Tell the state: the tuples (name, room, strength, phase) of all things."""
        return self.shelf.states()

    def story(self):
        """Tell what happened: tuples (moment, name, word, room)."""
        return self.shelf.rows.listed()

    def copied(self):
        """Tell a store alike that goes on by itself."""
        return store_of(self.shelf.doubled())

    def _refuse_gone(self, name):
        refuse_wrong([is_name(name)])
        if name not in self.shelf.things:
            raise Gone(name)


def is_store(thing):
    """Tell whether it is a store."""
    return isinstance(thing, Store)


def store_of(shelf):
    """Tell a store that keeps this very shelf."""
    # The rooms of a shelf may hold more than may be handed in, so the store is made with another one first.
    store = Store([1])
    store.shelf = shelf
    return store


def put_fits(name, sort, wane, strength):
    """List of each thing that a put is told whether it is as told."""
    return [is_name(name), is_sort(sort), is_wane(wane), is_strength(strength) and is_level(wane, strength)]


def is_mark(thing):
    """Tell whether it is a mender's mark, or None."""
    return thing is None or is_strength(thing)


def are_rooms(thing):
    """Tell whether it is a list of one to four rooms."""
    return isinstance(thing, list) and 1 <= len(thing) <= MOST_ROOMS and all([is_room(room) for room in thing])


def are_stirs(thing):
    """Tell whether it is a list of ten shifts."""
    return isinstance(thing, list) and len(thing) == SORTS and all([is_shift(stir) for stir in thing])
