import random
import unittest

from deeds import NAMES, TRILLION, daily, done, some_deed, some_hours, some_stores, some_wane, still
from slow_store import SlowStore, told_by
from things import BILLION, FAR, calls_of, not_names, strange_things, wrong_place
from wanehold import joins
from wanehold.errors import Busy, Full, Gone, There, TooMany, Unlike
from wanehold.joins import join_stores, part_store
from wanehold.store import Store
from wanehold.wanes import Wane


def falling(cap=90, lift=2, anew=True):
    return Wane([], [(1, 1)], cap=cap, lift=lift, anew=anew)


def filled(rooms, things, **named):
    """A store with things, tuples (name, strength), of sort 0."""
    store = Store(rooms, **named)
    for name, strength in things:
        store.put(name, 0, falling(), strength)
    return store


def busied(store, many, name="a"):
    for _ in range(many):
        store.hire(name, (3,))
    return store


def slow_of(store, names=NAMES):
    """A slow store that is as a store without a story tells."""
    slow = SlowStore(store.rooms(), store.stirs(), store.grain(), store.fade())
    slow.moment = store.now()
    for name in store.there():
        slow.things[name] = [*store.thing(name), store.wane_of(name)]
    for name in names:
        if store.trace(name):
            slow.left[name] = (store.trace(name), store.now())
    slow.plans = {number: (name, hours) for number, name, hours in store.askers()}
    slow.hires = len(slow.plans)
    return slow


class Refusing(unittest.TestCase):
    def refused(self, error, call, *given):
        stores = [thing for thing in given if isinstance(thing, Store)]
        before = [told_by(store, NAMES) for store in stores]
        with self.assertRaises(error) as caught:
            call(*given)
        self.assertIs(type(caught.exception), error)
        self.assertEqual([told_by(store, NAMES) for store in stores], before)
        return caught.exception


class JoinRefused(Refusing):
    def test_unlike(self):
        one = Store([50, 60], stirs=[0] * 9 + [3], grain=2, fade=4)
        late = one.copied()
        late.pass_on(1)
        for other in (
            late, Store([50], stirs=[0] * 9 + [3], grain=2, fade=4),
            Store([50, 60, 1], stirs=[0] * 9 + [3], grain=2, fade=4), Store([50, 60], grain=2, fade=4),
            Store([50, 60], stirs=[3] + [0] * 9, grain=2, fade=4),
            Store([50, 60], stirs=[0] * 9 + [3], grain=3, fade=4),
            Store([50, 60], stirs=[0] * 9 + [3], grain=2, fade=5),
        ):
            self.refused(Unlike, join_stores, one, other)
            self.refused(Unlike, join_stores, other, one)
            # Ahead of all others.
            both = [filled(store.rooms(), [], stirs=store.stirs(), grain=store.grain(), fade=store.fade())
                    for store in (one, other)]
            both[1].pass_on(other.now())
            for store in both:
                store.put("a", 0, falling(), 9)
                store.mend(5)
                busied(store, 5)
            self.refused(Unlike, join_stores, *both)
        # Rooms of other sizes are no hindrance.
        self.assertEqual(join_stores(one, Store([5, 7], stirs=one.stirs(), grain=2, fade=4)).rooms(), [55, 67])

    def test_busy_of_either(self):
        for marks in ((5, None), (None, 5), (5, 6)):
            one, other = [busied(filled([50], [("a", 9)]), 5) for _ in range(2)]
            one.mend(marks[0])
            other.mend(marks[1])
            self.refused(Busy, join_stores, one, other)
        one.mend(None)
        other.mend(None)
        self.refused(There, join_stores, one, other)

    def test_there_of_the_first_name_rising(self):
        one = filled([500], [("zz", 3), ("c", 3), ("ab", 3), ("b", 3)])
        other = filled([500], [("b", 3), ("c", 3), ("zz", 3), ("d", 3), ("e", 3)])
        self.assertEqual(self.refused(There, join_stores, one, other).name, "b")
        other.take("b")
        self.assertEqual(self.refused(There, join_stores, one, other).name, "c")
        other.take("c")
        self.assertEqual(self.refused(There, join_stores, other, one).name, "zz")
        other.take("zz")
        self.assertEqual(join_stores(one, other).there(), ["ab", "b", "c", "d", "e", "zz"])
        self.assertEqual(self.refused(There, join_stores, one, one).name, "ab")

    def test_too_many_things(self):
        one = filled([500], [(name, 3) for name in "abcd"])
        for names, fits in (("efgh", True), ("efghi", False), ("efghij", False)):
            other = filled([500], [(name, 3) for name in names])
            if fits:
                self.assertEqual(join_stores(one, other).there(), list("abcdefgh"))
            else:
                self.assertEqual(self.refused(TooMany, join_stores, one, other).most, 8)
                self.assertEqual(self.refused(TooMany, join_stores, other, one).most, 8)

    def test_too_many_askers(self):
        for one, other in ((4, 4), (8, 0), (0, 8), (1, 7)):
            both = join_stores(busied(Store([5]), one), busied(Store([5]), other))
            self.assertEqual(len(both.askers()), 8)
        for one, other in ((4, 5), (8, 1), (8, 8)):
            stores = busied(Store([5]), one), busied(Store([5]), other)
            self.assertEqual(self.refused(TooMany, join_stores, *stores).most, 8)

    def test_there_ahead_of_too_many(self):
        one = busied(filled([500], [(name, 3) for name in "abcde"]), 5)
        other = busied(filled([500], [(name, 3) for name in "efghi"]), 5)
        self.assertEqual(self.refused(There, join_stores, one, other).name, "e")

    def test_wrong(self):
        store = Store([5])
        for thing in (0, 1, "", "a", [], (), [store], Store, *strange_things()):
            self.assertEqual(wrong_place(self, join_stores, thing, store), 0)
            self.assertEqual(wrong_place(self, join_stores, thing, thing), 0)
            self.assertEqual(wrong_place(self, join_stores, store, thing), 1)


class Joined(unittest.TestCase):
    def test_by_hand(self):
        one = filled([60, 30], [("a", 50), ("b", 40)], grain=3, fade=2)
        other = filled([20, 100], [("d", 30)], grain=3, fade=2)
        one.hire("a", (1, 2))
        one.hire("zz", (3,))
        one.dismiss(1)
        other.hire("d", (4,))
        for store in (one, other):
            store.pass_on(20)
        before = [told_by(store, NAMES) for store in (one, other)]
        both = join_stores(one, other)
        self.assertEqual([told_by(store, NAMES) for store in (one, other)], before)
        self.assertEqual(told_by(both, NAMES), {
            "now": 20, "there": ["a", "d"], "things": [(0, 0, 30, 20, 0), (1, 0, 12, 16, 1)],
            "wanes": [falling().text()] * 2, "totals": [30, 12], "traces": [0] * len(NAMES),
            "askers": [(1, "zz", (3,)), (2, "d", (4,))], "mender": None,
            "state": (("a", 0, 30, 0), ("d", 1, 12, 0)), "story": [], "made": ([80, 130], [0] * 10, 3, 2),
        })
        self.assertEqual(both.hire("d", (5,)), 3)

    def test_they_go_on_by_themselves(self):
        one, other = filled([60], [("a", 50)]), filled([60], [("b", 50)])
        both = join_stores(one, other)
        before = told_by(both, NAMES)
        one.ask("a")
        other.take("b")
        other.hire("b", (1,))
        self.assertEqual(told_by(both, NAMES), before)
        two = [told_by(store, NAMES) for store in (one, other)]
        both.ask("b")
        both.take("a")
        both.pass_on(7)
        both.hire("b", (1,))
        self.assertEqual([told_by(store, NAMES) for store in (one, other)], two)

    def test_an_empty_one_with_itself(self):
        store = busied(Store([5, 6]), 3)
        both = join_stores(store, store)
        self.assertEqual((both.rooms(), len(both.askers()), both.hire("a", (1,))), ([10, 12], 6, 7))
        self.assertEqual((store.rooms(), len(store.askers())), ([5, 6], 3))

    def left(self, name, asked, moment, now):
        """A store from which a thing asked for so often was crowded out at a moment."""
        store = Store([500], grain=10, fade=1)
        store.put(name, 0, falling(), moment)
        for _ in range(asked):
            store.ask(name)
        store.pass_on(moment)
        store.put("zzz", 0, still(cap=BILLION), 500)
        self.assertEqual(store.there(), ["zzz"])
        store.take("zzz")
        store.pass_on(now - moment)
        return store

    def test_the_greater_trace_now(self):
        one, other = self.left("a", 2, 10, 20), self.left("a", 1, 20, 20)
        self.assertEqual((one.trace("a"), other.trace("a")), (10, 10))
        one, other = self.left("a", 3, 10, 20), self.left("a", 1, 20, 20)
        self.assertEqual((one.trace("a"), other.trace("a")), (20, 10))
        for both in (join_stores(one, other), join_stores(other, one)):
            self.assertEqual(both.trace("a"), 20)
            both.pass_on(3)
            self.assertEqual(both.trace("a"), 17)
            both.pass_on(16)
            self.assertEqual(both.trace("a"), 1)
            both.put("a", 0, falling(), 5)
            self.assertEqual(both.thing("a")[2], 6)

    def test_the_trace_of_what_is_there_is_forgotten(self):
        one, other = self.left("a", 3, 10, 20), Store([500], grain=10, fade=1)
        other.pass_on(20)
        other.put("a", 0, falling(), 5)
        for both in (join_stores(one, other), join_stores(other, one)):
            self.assertEqual((both.trace("a"), both.thing("a")[2]), (0, 5))
            both.take("a")
            self.assertEqual(both.trace("a"), 0)
            both.put("a", 0, falling(), 5)
            self.assertEqual(both.thing("a")[2], 5)

    def test_what_was_taken_from_one_has_the_other_trace(self):
        one, other = self.left("a", 3, 10, 20), Store([500], grain=10, fade=1)
        other.put("a", 0, falling(), 5)
        other.take("a")
        other.pass_on(20)
        self.assertEqual([join_stores(one, other).trace("a"), join_stores(other, one).trace("a")], [20, 20])

    def test_rooms_of_great_numbers(self):
        store = Store([TRILLION, 1])
        store.put("a", 0, still(lift=7), 5)
        empty = Store([TRILLION, 1])
        for _ in range(200):
            empty = join_stores(empty, empty)
            self.assertEqual(join_stores(store, empty).there(), ["a"])
        both = join_stores(store, empty)
        self.assertEqual(both.rooms(), [TRILLION * (2 ** 200 + 1), 2 ** 200 + 1])
        both.hire("a", (3,))
        both.pass_on(FAR)
        self.assertEqual(both.thing("a"), (0, 0, BILLION, FAR, FAR // 24 + (FAR % 24 >= 3)))
        copy = both.copied()
        self.assertEqual(copy.rooms(), both.rooms())

    def test_joined_by_chance_goes_on_as_any_other(self):
        chance = random.Random(101)
        looked = 0
        while looked < 60:
            one, other = pair_of_stores(chance)
            try:
                both = join_stores(one, other)
            except (There, TooMany):
                continue
            looked += 1
            slow = slow_of(both)
            self.assertEqual(told_by(both, NAMES), slow.all_told(NAMES))
            things = {name: store.thing(name) for store in (one, other) for name in store.there()}
            self.assertEqual({name: both.thing(name) for name in both.there()}, things)
            for name in NAMES:
                there = name in both.there()
                self.assertEqual(both.trace(name), 0 if there else max(one.trace(name), other.trace(name)))
            # Far on it is as it is told by the first days and a leap.
            far, near = both.copied(), both.copied()
            far.pass_on(10 ** 20 + 5)
            near.pass_on(5)
            near.pass_on(10 ** 20)
            self.assertEqual(told_by(far, NAMES), told_by(near, NAMES))
            go_on(self, chance, both, slow)


def pair_of_stores(chance):
    """Two stores without menders that are alike enough to be joined; things and askers are few."""
    one, slow = some_stores(chance)
    rooms = [chance.choice([1, 20, 200, 1000, 10 ** 9]) for _ in one.rooms()]
    other = Store(rooms, stirs=one.stirs(), grain=one.grain(), fade=one.fade())
    for store, names in ((one, NAMES[:7]), (other, NAMES[3:])):
        for _ in range(chance.choice([2, 6, 10])):
            wane = some_wane(chance)
            done(store, "put", chance.choice(names), chance.choice([0, 0, 1]), wane, min(wane.cap(), 50))
            if store.there():
                store.ask(chance.choice(store.there()))
            if chance.random() < 0.4:
                done(store, "hire", chance.choice(NAMES), some_hours(chance))
            if chance.random() < 0.2:
                done(store, "dismiss", 1)
            store.pass_on(chance.choice([0, 1, 3]))
    last = max(one.now(), other.now())
    one.pass_on(last - one.now())
    other.pass_on(last - other.now())
    return one, other


def go_on(case, chance, store, slow, many=12):
    """Do some deeds to both, and pass them on turn by turn, and by some turns."""
    for _ in range(many):
        word, *given = some_deed(chance)
        if word == "put" and (given[0] in slow.things or len(slow.things) == 8):
            continue
        if word in ("ask", "take") and given[0] not in slow.things or word == "hire" and len(slow.plans) == 8:
            continue
        if word == "dismiss" and given[0] not in slow.plans:
            continue
        case.assertEqual(getattr(store, word)(*given), getattr(slow, word)(*given))
        case.assertEqual(told_by(store, NAMES), slow.all_told(NAMES))


class PartRefused(Refusing):
    def full(self):
        store = filled([50, 40], [("a", 30), ("b", 20), ("c", 10)], grain=2, fade=3)
        self.assertEqual([store.thing(name)[0] for name in "abc"], [0, 0, 1])
        return store

    def test_wrong(self):
        store = self.full()
        store.mend(5)
        for thing in (0, 1, "", "a", [], (), [store], Store, *strange_things()):
            self.assertEqual(wrong_place(self, part_store, thing, ["zz"], [5, 5]), 0)
            self.assertEqual(wrong_place(self, part_store, thing, thing, thing), 0)
        for thing in (
            0, "", "a", (), ("a",), ["a", "a"], ["a", "b", "a"], ["zz", "zz"], {"a": 1}, *strange_things(),
            *[[name] for name in not_names()], ["a", 0], ["a", []], [["a"], ["a"]],
        ):
            self.assertEqual(wrong_place(self, part_store, store, thing, [5, 5]), 1)
            self.assertEqual(wrong_place(self, part_store, store, thing, thing), 1)
        for thing in (
            [], [5], [5, 5, 5], (5, 5), 5, "", [50, 5], [5, 40], [51, 5], [50, 40], [0, 5], [5, 0], [-1, 5],
            [5, "5"], [5, [5]], [5, TRILLION + 1], *[[5, one] for one in strange_things()], *strange_things(),
        ):
            self.assertEqual(wrong_place(self, part_store, store, ["zz"], thing), 2)

    def test_a_room_of_one_cannot_be_parted(self):
        store = Store([50, 1])
        for rooms in ([5, 1], [5, 0], [5, 2], [1, 1]):
            self.assertEqual(wrong_place(self, part_store, store, [], rooms), 2)
        one, other = part_store(Store([50, 2]), [], [49, 1])
        self.assertEqual((one.rooms(), other.rooms()), ([49, 1], [1, 1]))

    def test_gone_ahead_of_busy_ahead_of_full(self):
        store = self.full()
        store.mend(5)
        for names, name in ((["zz"], "zz"), (["a", "zz", "e"], "zz"), (["e", "zz"], "e"), (["zz", "e"], "zz")):
            self.assertEqual(self.refused(Gone, part_store, store, names, [1, 1]).name, name)
        self.refused(Busy, part_store, store, ["a"], [1, 1])
        self.refused(Busy, part_store, store, ["a"], [30, 20])
        store.mend(None)
        self.assertEqual(self.refused(Full, part_store, store, ["a"], [1, 1]).place, 0)

    def test_full_place_by_place(self):
        store = self.full()
        for names, rooms, place in (
            (["a"], [29, 20], 0), (["a"], [30, 20], None), (["a"], [31, 20], 0), (["b"], [20, 20], None),
            (["b"], [19, 20], 0), (["b"], [21, 20], 0), (["c"], [1, 10], 0), ([], [1, 1], 0),
            (["a", "b"], [49, 39], 0), (["a"], [30, 30], None), (["a"], [30, 31], 1), (["a", "c"], [30, 10], None),
            (["a", "c"], [30, 9], 1), (["a", "c"], [29, 9], 0), (["b", "c"], [20, 39], None),
        ):
            if place is None:
                one, other = part_store(store, names, rooms)
                self.assertEqual((one.there(), one.rooms()), (names, rooms))
                self.assertEqual(other.rooms(), [50 - rooms[0], 40 - rooms[1]])
            else:
                self.assertEqual(self.refused(Full, part_store, store, names, rooms).place, place)


class Parted(unittest.TestCase):
    def test_by_hand(self):
        store = filled([60, 60], [("d", 9), ("a", 50), ("b", 40)], grain=9, fade=2, stirs=[1] + [0] * 9)
        store.ask("d")
        for name, hours in (("zz", (3,)), ("a", (1, 2)), ("b", (5,)), ("a", (9,)), ("d", (6,))):
            store.hire(name, hours)
        store.dismiss(1)
        store.pass_on(20)
        # d was 11, and lifted to 14: it faded in turn 14, asked for twice.
        self.assertEqual((store.there(), store.trace("d")), (["a", "b"], 6))
        store.put("e", 3, falling(), 12)
        store.hire("b", (7,))
        before = told_by(store, NAMES)
        told = part_store(store, ["a"], [40, 20])
        self.assertIs(type(told), tuple)
        self.assertEqual(told_by(store, NAMES), before)
        one, other = told
        self.assertEqual(told_by(one, [*NAMES, "d"]), {
            "now": 20, "there": ["a"], "things": [(0, 0, 36, 11, 3)], "wanes": [falling().text()],
            "totals": [36, 0], "traces": [0] * (len(NAMES) + 1), "askers": [(1, "a", (1, 2)), (2, "a", (9,))],
            "mender": None, "state": (("a", 0, 36, 0),), "story": [], "made": ([40, 20], [1] + [0] * 9, 9, 2),
        })
        self.assertEqual(told_by(other, ["a", "b", "d", "e"]), {
            "now": 20, "there": ["b", "e"], "things": [(1, 0, 24, 15, 1), (0, 3, 12, 0, 0)],
            "wanes": [falling().text()] * 2, "totals": [12, 24], "traces": [0, 0, 6, 0],
            "askers": [(1, "b", (5,)), (2, "d", (6,)), (3, "b", (7,))], "mender": None,
            "state": (("b", 1, 24, 0), ("e", 0, 12, 0)), "story": [], "made": ([20, 40], [1] + [0] * 9, 9, 2),
        })
        self.assertEqual((one.hire("a", (1,)), other.hire("a", (1,)), store.hire("a", (1,))), (3, 4, 7))

    def test_traces_stay_with_the_others(self):
        store = Store([50], grain=5)
        store.put("b", 0, falling(lift=0), 2)
        store.ask("b")
        store.pass_on(2)
        store.put("a", 0, falling(), 9)
        self.assertEqual(store.trace("b"), 5)
        one, other = part_store(store, ["a"], [20])
        self.assertEqual((one.trace("b"), other.trace("b")), (0, 5))
        other.pass_on(2)
        self.assertEqual((store.trace("b"), other.trace("b")), (5, 3))
        one, other = part_store(store, [], [20])
        self.assertEqual((one.trace("b"), other.trace("b"), other.there()), (0, 5, ["a"]))

    def test_they_go_on_by_themselves(self):
        store = filled([60], [("a", 20), ("b", 10)])
        names, rooms = ["a"], [30]
        one, other = part_store(store, names, rooms)
        names.append("b")
        rooms[0] = 1
        self.assertEqual((one.rooms(), other.rooms(), other.there()), ([30], [30], ["b"]))
        told = [told_by(each, NAMES) for each in (one, other)]
        store.ask("a")
        store.pass_on(3)
        self.assertEqual([told_by(each, NAMES) for each in (one, other)], told)
        before = told_by(store, NAMES)
        one.ask("a")
        other.take("b")
        one.pass_on(7)
        self.assertEqual(told_by(store, NAMES), before)

    def test_all_and_none(self):
        store = filled([60], [("a", 20), ("b", 10)])
        one, other = part_store(store, ["b", "a"], [59])
        self.assertEqual((one.there(), one.rooms(), other.there(), other.rooms()), (["a", "b"], [59], [], [1]))
        one, other = part_store(store, [], [1])
        self.assertEqual((one.there(), one.rooms(), other.there(), other.rooms()), ([], [1], ["a", "b"], [59]))

    def test_rooms_of_great_numbers(self):
        store = Store([TRILLION])
        for _ in range(100):
            store = join_stores(store, store)
        one, other = part_store(store, [], [TRILLION])
        self.assertEqual((one.rooms(), other.rooms()), ([TRILLION], [TRILLION * (2 ** 100 - 1)]))
        self.assertEqual(wrong_place(self, part_store, store, [], [TRILLION + 1]), 2)

    def test_parted_and_joined_again(self):
        chance = random.Random(102)
        looked = 0
        while looked < 60:
            store, slow = pair_of_stores(chance)
            names = [name for name in store.there() if chance.random() < 0.5]
            rooms = [chance.randint(1, max(1, room - 1)) for room in store.rooms()]
            if 1 in store.rooms():
                self.assertEqual(wrong_place(self, part_store, store, names, rooms), 2)
                continue
            try:
                one, other = part_store(store, names, rooms)
            except Full:
                continue
            looked += 1
            before = told_by(store, NAMES)
            askers = [row[1:] for row in store.askers()]
            for part in (one, other):
                self.assertEqual(told_by(part, NAMES), slow_of(part).all_told(NAMES))
            self.assertEqual([row[1:] for row in one.askers()], [row for row in askers if row[0] in names])
            self.assertEqual([row[1:] for row in other.askers()], [row for row in askers if row[0] not in names])
            again = told_by(join_stores(one, other), NAMES)
            for word in ("now", "there", "things", "wanes", "totals", "traces", "mender", "state", "made"):
                self.assertEqual(again[word], before[word])
            self.assertEqual(again["story"], [])
            self.assertEqual(told_by(store, NAMES), before)
            for part in (one, other):
                far, near = part.copied(), part.copied()
                far.pass_on(10 ** 20 + 30)
                near.pass_on(30)
                near.pass_on(10 ** 20)
                self.assertEqual(told_by(far, NAMES), told_by(near, NAMES))
                go_on(self, chance, part, slow_of(part), 6)

    def test_few_steps_however_far(self):
        one, other = Store([BILLION, TRILLION], stirs=[-1] + [0] * 9), Store([5, 5], stirs=[-1] + [0] * 9)
        for at, name in enumerate("abcd"):
            one.put(name, 0, daily(at, lift=2), BILLION // (at + 1))
        one.hire("a", (3, 4))
        other.hire("d", (5,))
        both = join_stores(one, other)
        self.assertLess(calls_of(both.pass_on, FAR)[1], 2 * 10 ** 6)
        parts = part_store(join_stores(one, other), ["b", "d"], [5, BILLION])
        for part in parts:
            self.assertLess(calls_of(part.pass_on, FAR)[1], 2 * 10 ** 6)

    def test_defined_in_their_file(self):
        for call in (join_stores, part_store):
            self.assertEqual(call.__module__, joins.__name__)
        self.assertEqual(joins.__name__, "wanehold.joins")


if __name__ == "__main__":
    unittest.main()
