"""Desks: stores kept by names, told of and asked about by rows of text."""

from wanehold.deeds import do_deed
from wanehold.errors import NoName, NoRow, Nothing, There, TooMany
from wanehold.orders import read_order
from wanehold.store import Store

MOST_STORES = 8
DONE = "ok"
NONE = "none"


class Desk:
    """Stores by names, and the deeds that can be undone, or done once more."""

    def __init__(self):
        # A store that is kept is never changed: a deed puts a changed copy into its place.
        self._stores = {}
        # The deeds that stand, and those that were undone: tuples (name, store ahead of it, store behind it),
        # None where there is none.
        self._stand = []
        self._undone = []

    def say(self, row):
        """Do or tell what a row says, and tell the answer."""
        word, things = read_order(row)
        if word == "names":
            return _listed(sorted(self._stores))
        if word == "back":
            self._go_back()
            return DONE
        if word == "again":
            self._go_again()
            return DONE
        if word == "new":
            return self._make(*things)
        name, *given = things
        if name not in self._stores:
            raise NoName(name)
        store = self._stores[name]
        if word in ANSWERS:
            answer = ANSWERS[word]
            return answer(store, *given)
        return self._do(name, store, word, given)

    def _make(self, name, grain, fade, told):
        self._refuse_new(name)
        rooms, stirs = told
        self._let_stand(name, Store(rooms, stirs=stirs, grain=grain, fade=fade))
        return DONE

    def _do(self, name, store, word, given):
        if word == "drop":
            self._let_stand(name, None)
            return DONE
        behind = store.copied()
        if word == "copy":
            name = given[0]
            self._refuse_new(name)
            told = DONE
        else:
            told = _done(behind, word, given)
        self._let_stand(name, behind)
        return told

    def _refuse_new(self, name):
        if name in self._stores:
            raise There(name)
        if len(self._stores) >= MOST_STORES:
            raise TooMany(MOST_STORES)

    def _let_stand(self, name, store):
        self._stand.append((name, self._stores.get(name), store))
        self._undone = []
        self._place(name, store)

    def _go_back(self):
        if not self._stand:
            raise Nothing()
        deed = self._stand.pop()
        self._undone.append(deed)
        self._place(deed[0], deed[1])

    def _go_again(self):
        if not self._undone:
            raise Nothing()
        deed = self._undone.pop()
        self._stand.append(deed)
        self._place(deed[0], deed[2])

    def _place(self, name, store):
        """Keep a store by a name, or none."""
        if store is None:
            del self._stores[name]
        else:
            self._stores[name] = store


def _done(store, word, given):
    """Do a deed to a store, and tell the answer."""
    if word == "pass":
        told = store.pass_on(*given)
    elif word == "put":
        name, sort, strength, wane = given
        told = do_deed(store, (word, name, sort, wane, strength))
    else:
        told = do_deed(store, (word, *given))
    return DONE if told is None else str(told)


def _listed(words):
    return " ".join(words) if words else NONE


def _there(store):
    return _listed(store.there())


def _now(store):
    return str(store.now())


def _total(store, place):
    if place >= len(store.rooms()):
        raise NoRow()
    return str(store.total(place))


def _trace(store, name):
    return str(store.trace(name))


def _thing(store, name):
    return _listed([str(number) for number in store.thing(name)])


def _story(store):
    rows = [f"{moment} {name} {word} {room}" for moment, name, word, room in store.story()]
    return "\n".join(rows) if rows else NONE


ANSWERS = {"there": _there, "now": _now, "total": _total, "trace": _trace, "thing": _thing, "story": _story}
