"""What will come of a store without a mender, if nothing is told any more."""

from wanehold.checks import refuse_wrong
from wanehold.errors import Busy
from wanehold.kinds import DAY, MOST_MOMENT
from wanehold.passing import stride
from wanehold.store import is_store
from wanehold.story import Story


def foreseen(store):
    """Tell the tuple (rest, rows): the moment from which on each day is like the last one, and the story till then."""
    refuse_wrong([is_store(store)])
    if store.mender() is not None:
        raise Busy()
    shelf = store.shelf.doubled()
    shelf.rows = Story()
    before = shelf.doubled()
    while not _rests(shelf):
        before = shelf.doubled()
        stride(shelf, MOST_MOMENT)
    # No leap ends at rest, so rest came within the last day, which was walked.
    while not _rests(before):
        before.turn()
    return before.moment, before.rows.listed()


def _rests(shelf):
    """Tell whether the states are the same a day later."""
    later = shelf.doubled()
    later.turns(DAY)
    return later.states() == shelf.states()
