"""Logs: deeds told in any order, and what a store is to which they are done in time."""

from wanehold.checks import refuse_wrong
from wanehold.deeds import DISMISS, HIRE, do_deed, is_deed
from wanehold.errors import Gone, NoAsker, NoDeed, There, TooMany
from wanehold.kinds import is_moment, is_whole
from wanehold.store import Store

MOST_DEEDS = 60


class Log:
    """Deeds that are kept with their moments, by their numbers."""

    def __init__(self, rooms, *, stirs=None, grain=0, fade=1):
        # What is wrong the store refuses, by the same places.
        self._begin = Store(rooms, stirs=stirs, grain=grain, fade=fade)
        self._last = 0
        # By number the tuple (moment, deed).
        self._told = {}

    def tell(self, moment, deed):
        """Keep a deed, and tell its number."""
        refuse_wrong([is_moment(moment), is_deed(deed)])
        if len(self._told) >= MOST_DEEDS:
            raise TooMany(MOST_DEEDS)
        self._last += 1
        self._told[self._last] = (moment, deed)
        return self._last

    def unsaid(self, number):
        """Take the deed with this number back."""
        if not is_whole(number) or number not in self._told:
            raise NoDeed(number)
        del self._told[number]

    def deeds(self):
        """List the tuples (number, moment, deed), by number."""
        return [(number, moment, deed) for number, (moment, deed) in self._told.items()]

    def store_at(self, moment):
        """Tell the store at a moment."""
        refuse_wrong([is_moment(moment)])
        store, _ = _played(self._begin, self.deeds(), moment)
        return store

    def idle(self, moment):
        """List the numbers of the deeds up to a moment that are refused."""
        refuse_wrong([is_moment(moment)])
        _, idle = _played(self._begin, self.deeds(), moment)
        return idle

    def changed_by(self, number, moment):
        """List the names whose thing is otherwise at a moment than it would be without this deed."""
        refuse_wrong([is_whole(number) and number >= 1, is_moment(moment)])
        if number not in self._told:
            raise NoDeed(number)
        without = [deed for deed in self.deeds() if deed[0] != number]
        store, _ = _played(self._begin, self.deeds(), moment)
        other, _ = _played(self._begin, without, moment)
        names = sorted(set(store.there()) | set(other.there()))
        return [name for name in names if _told_of(store, name) != _told_of(other, name)]


def _played(begin, deeds, moment):
    """Tell the tuple (store, idle): what becomes of a store by the deeds up to a moment, and which it refuses."""
    store = begin.copied()
    idle = []
    # By the numbers of hire deeds the store's own numbers of askers that aren't dismissed.
    askers = {}
    # No two numbers are alike, so no deed is compared.
    in_time = sorted([(at, number, deed) for number, at, deed in deeds if at <= moment])
    for at, number, deed in in_time:
        store.pass_on(at - store.now())
        if not _is_done(store, number, deed, askers):
            idle.append(number)
    store.pass_on(moment - store.now())
    return store, sorted(idle)


def _is_done(store, number, deed, askers):
    """Do a deed, and tell whether it isn't refused."""
    if deed[0] == DISMISS:
        # None is no asker's number, so it is refused.
        deed = (DISMISS, askers.pop(deed[1], None))
    try:
        told = do_deed(store, deed)
    except (Gone, NoAsker, There, TooMany):
        return False
    if deed[0] == HIRE:
        askers[number] = told
    return True


def _told_of(store, name):
    """Tell what a store tells of a thing, None where it isn't there."""
    if name not in store.there():
        return None
    return store.thing(name), store.wane_of(name).text()
