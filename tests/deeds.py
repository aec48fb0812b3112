"""Stores and slow ones, alike, and chance deeds done to both."""

from slow_store import SlowStore, told_by
from things import BILLION
from wanehold.errors import Gone, NoAsker, There, TooMany
from wanehold.store import Store
from wanehold.wanes import Wane

NAMES = ["a", "b", "c", "ab", "abc", "d", "e", "f", "g", "zz"]
TAILS = (1, 2, 3, 4, 6, 8, 12, 24)
TRILLION = 10 ** 12
DAILY = [(1, 0)] * 23


def some_wane(chance, caps=(3, 10, 50, 100, 1000, 5000, 10 ** 9)):
    """A wane that takes little, often, or much."""
    cap = chance.choice(caps)
    takes = chance.choice([[0, 0, 0, 1, 2], [0] * 9 + [1], [0] * 9 + [1], [0, 1, 2, 5, cap // 7]])
    bys = chance.choice([[1], [1], [1] * 9 + [2], [1, 1, 2, 3, 9]])
    steps = [(chance.choice(bys), chance.choice(takes)) for _ in range(48)]
    lead = chance.choice([0, 0, 1, 3, 24])
    lift = chance.choice([0, 1, 2, 5, cap // 3, cap])
    return Wane(steps[:lead], steps[24:24 + chance.choice(TAILS)], cap=cap, lift=lift, anew=chance.random() < 0.5)


def some_hours(chance):
    return tuple(sorted(chance.sample(range(24), chance.choice([1, 1, 1, 2, 3, 6, 24]))))


def some_stores(chance):
    """A store and a slow one, alike."""
    rooms = [chance.choice([1, 20, 200, 1000, 3000, 10 ** 9, 10 ** 10]) for _ in range(chance.randint(1, 4))]
    stirs = [chance.choice([0, 0, 1, -1, 2, -3, 10]) for _ in range(10)] if chance.random() < 0.7 else None
    grain, fade = chance.choice([0, 1, 5]), chance.choice([1, 1, 2])
    return Store(rooms, stirs=stirs, grain=grain, fade=fade), SlowStore(rooms, stirs, grain, fade)


def done(store, deed, *given):
    """Do a deed, and tell what it tells, or the name of its refusal."""
    try:
        return getattr(store, deed)(*given)
    except (Gone, NoAsker, There, TooMany) as refusal:
        return type(refusal).__name__


def some_deed(chance):
    """A deed: its name, and what it is given."""
    name = chance.choice(NAMES)
    word = chance.choice(["put"] * 8 + ["hire"] * 4 + ["ask", "ask", "take", "dismiss", "mend", "pass_on"])
    if word == "put":
        wane = some_wane(chance)
        strength = chance.choice([1, wane.cap(), chance.randint(1, wane.cap()), min(wane.cap(), 50)])
        return word, name, chance.choice([0, 0, 1]), wane, strength
    if word == "hire":
        return word, name, some_hours(chance)
    if word == "dismiss":
        return word, chance.randint(0, 9)
    if word == "mend":
        return word, chance.choice([None, None, 1, 10, 50, 10 ** 9])
    if word == "pass_on":
        return word, chance.choice([0, 1, 3, 24, 50])
    return word, name


def row_of_deed(name, word, *given):
    """The row that tells a desk a deed to the store of this name."""
    if word == "put":
        thing, sort, wane, strength = given
        return f"put {name} {thing} {sort} {strength} {wane.text()}"
    if word == "hire":
        return f"hire {name} {given[0]} {' '.join(map(str, given[1]))}"
    if word == "pass_on":
        return f"pass {name} {given[0]}"
    return f"{word} {name} {'none' if given[0] is None else given[0]}"


def refused(slow, word, *given):
    """The name of the refusal that the document tells, None where there is none."""
    there = given[0] in slow.things
    if word == "put":
        return "There" if there else "TooMany" if len(slow.things) == 8 else None
    if word in ("ask", "take"):
        return None if there else "Gone"
    if word == "hire":
        return "TooMany" if len(slow.plans) == 8 else None
    if word == "dismiss":
        return None if given[0] in slow.plans else "NoAsker"
    return None


def do_some(case, chance, store, slow, many):
    """Do so many deeds to both, and look each time that the store tells what it should."""
    for _ in range(many):
        word, *given = some_deed(chance)
        wanted = refused(slow, word, *given)
        if wanted is None:
            wanted = getattr(slow, word)(*given)
        case.assertEqual(done(store, word, *given), wanted)
        case.assertEqual(told_by(store, NAMES), slow.all_told(NAMES))


def daily(take, cap=BILLION, lift=0, anew=False):
    """A wane whose last step of the day takes so much."""
    return Wane([], DAILY + [(1, take)], cap=cap, lift=lift, anew=anew)


def still(cap=BILLION, lift=0, anew=False):
    return Wane([], [(1, 0)], cap=cap, lift=lift, anew=anew)


def passed_on(store, turns):
    """A copy that was passed on."""
    copy = store.copied()
    copy.pass_on(turns)
    return copy


def late_stores(chance):
    """A store and a slow one in which much comes late: things rise and fall by little a day."""
    rooms = [chance.choice([500, 1500, 3000]) for _ in range(chance.randint(1, 4))]
    stirs = [chance.choice([0, 0, 1, -1]) for _ in range(10)]
    stores = Store(rooms, stirs=stirs, grain=3, fade=2), SlowStore(rooms, stirs, 3, 2)
    for name in NAMES[:8]:
        steps = [[1, 0] for _ in range(chance.choice([6, 8, 12, 24]))]
        if chance.random() < 0.6:
            chance.choice(steps)[1] = 1
        if chance.random() < 0.15:
            chance.choice(steps)[0] = 2
        cap = chance.randint(100, 1200)
        wane = Wane(
            [(1, chance.choice([0, 1])) for _ in range(chance.choice([0, 5]))], [tuple(step) for step in steps],
            cap=cap, lift=chance.choice([1, 1, 2, 3, 50]), anew=chance.random() < 0.3,
        )
        sort, strength = chance.choice([0, 0, 1]), chance.randint(1, cap)
        for one in stores:
            one.put(name, sort, wane, strength)
    for _ in range(chance.randint(2, 8)):
        name, hours = chance.choice(NAMES), some_hours(chance)[:4]
        for one in stores:
            one.hire(name, hours)
    return stores
