import random
import unittest

from deeds import NAMES, do_some, some_stores
from slow_store import told_by
from things import BILLION, FAR, not_moments, not_names, not_wanes, strange_things, wrong_place
from wanehold import store as module
from wanehold.errors import Gone, NoAsker, There, TooMany
from wanehold.store import Store
from wanehold.wanes import Wane

METHODS = (
    "__init__", "put", "ask", "take", "mend", "pass_on", "hire", "dismiss", "now", "rooms", "stirs", "grain", "fade",
    "there", "thing", "wane_of", "total", "trace", "askers", "mender", "state", "story", "copied",
)
TRILLION = 10 ** 12


def still(cap=1000, lift=0, anew=True):
    """A wane that takes nothing."""
    return Wane([], [(1, 0)], cap=cap, lift=lift, anew=anew)


def falling(take=1, cap=1000, lift=0, anew=True):
    """A wane that takes as much each turn."""
    return Wane([], [(1, take)], cap=cap, lift=lift, anew=anew)


def held(*strengths, rooms=None, stirs=None, **named):
    """A store with things a, b, c, .. of sort 0 that nothing takes from."""
    store = Store(rooms or [TRILLION], stirs=stirs, **named)
    for name, strength in zip("abcdefgh", strengths):
        store.put(name, 0, still(), strength)
    return store


def words(store):
    """The story without its moments."""
    return [row[1:] for row in store.story()]


def strengths(store):
    return {name: store.thing(name)[2] for name in store.there()}


def stirring(stir):
    """Stirs of which sort 0 has this one."""
    return [stir] + [0] * 9


class Making(unittest.TestCase):
    def test_a_new_store(self):
        store = Store([5, 7])
        self.assertEqual(told_by(store, ["a"]), {
            "now": 0, "there": [], "things": [], "wanes": [], "totals": [0, 0], "traces": [0], "askers": [],
            "mender": None, "state": (), "story": [], "made": ([5, 7], [0] * 10, 0, 1),
        })

    def test_at_and_beside_the_bounds(self):
        for rooms in ([1], [TRILLION], [1, TRILLION], [5, 5, 5], [4, 3, 2, 1]):
            self.assertEqual(Store(rooms).rooms(), rooms)
        for stirs in ([0] * 10, list(range(10)), [BILLION] * 10, [-BILLION] * 10, [-1, 1] * 5):
            self.assertEqual(Store([1], stirs=stirs).stirs(), stirs)
        for grain in (0, 1, BILLION - 1, BILLION):
            self.assertEqual(Store([1], grain=grain).grain(), grain)
        for fade in (1, 2, BILLION - 1, BILLION):
            self.assertEqual(Store([1], fade=fade).fade(), fade)
        self.assertEqual(Store([1], stirs=None, grain=0, fade=1).stirs(), [0] * 10)

    def test_wrong(self):
        for rooms in (
            [], [1] * 5, [0], [-1], [TRILLION + 1], [1, 0], [1, None], [True], [1, [1]], ["1"], (1,), (), 1, 0, "", "1",
            *strange_things(),
        ):
            self.assertEqual(wrong_place(self, Store, rooms), 0)
            self.assertEqual(wrong_place(self, Store, rooms, stirs=1, grain=-1, fade=0), 0)
        for stirs in (
            [], [0] * 9, [0] * 11, [0] * 9 + [BILLION + 1], [-BILLION - 1] + [0] * 9, [0] * 9 + [True],
            [0] * 9 + [None], [0] * 9 + ["0"], (0,) * 10, 0, 1, "", *strange_things()[1:],
        ):
            self.assertEqual(wrong_place(self, Store, [1], stirs=stirs), 1)
            self.assertEqual(wrong_place(self, Store, [1], fade=0, grain=-1, stirs=stirs), 1)
        for grain in (-1, BILLION + 1, FAR, "0", "", [], (0,), *strange_things()):
            self.assertEqual(wrong_place(self, Store, [1], grain=grain), 2)
            self.assertEqual(wrong_place(self, Store, [1], fade=0, grain=grain), 2)
        for fade in (0, -1, BILLION + 1, FAR, "1", "", [], (1,), *strange_things()):
            self.assertEqual(wrong_place(self, Store, [1], fade=fade), 3)

    def test_behind_the_star(self):
        with self.assertRaises(TypeError):
            Store([1], [0] * 10)

    def test_lists_handed_in_may_change_later_on(self):
        rooms, stirs = [5, 7], [0] * 9 + [3]
        store = Store(rooms, stirs=stirs)
        self.assertEqual((rooms, stirs), ([5, 7], [0] * 9 + [3]))
        rooms.append(1)
        stirs[0] = 9
        self.assertEqual((store.rooms(), store.stirs()), ([5, 7], [0] * 9 + [3]))

    def test_defined_in_its_file_with_its_methods(self):
        self.assertEqual(Store.__module__, "wanehold.store")
        self.assertIs(module.Store, Store)
        for word in METHODS:
            self.assertIn(word, vars(Store))


class Putting(unittest.TestCase):
    def test_by_hand(self):
        store = Store([100, 50])
        wane = falling()
        self.assertIsNone(store.put("b", 3, wane, 40))
        self.assertIsNone(store.put("a", 0, still(), 1))
        self.assertEqual(store.there(), ["a", "b"])
        self.assertEqual([store.thing(name) for name in "ab"], [(0, 0, 1, 0, 0), (0, 3, 40, 0, 0)])
        self.assertEqual((store.wane_of("b").text(), store.wane_of("a").text()), (wane.text(), still().text()))
        self.assertEqual(store.story(), [(0, "b", "put", 0), (0, "a", "put", 0)])
        self.assertEqual(([store.total(0), store.total(1)], store.now()), ([41, 0], 0))
        self.assertEqual(store.state(), (("a", 0, 1, 0), ("b", 0, 40, 0)))

    def test_there(self):
        store = held(5)
        before = told_by(store, "ab")
        with self.assertRaises(There) as caught:
            store.put("a", 1, falling(), 9)
        self.assertEqual(caught.exception.name, "a")
        self.assertEqual(told_by(store, "ab"), before)

    def test_there_ahead_of_too_many(self):
        store = held(1, 2, 3, 4, 5, 6, 7, 8)
        before = told_by(store, "abcdefghi")
        with self.assertRaises(There):
            store.put("h", 0, still(), 9)
        with self.assertRaises(TooMany) as caught:
            store.put("i", 0, still(), 9)
        self.assertEqual(caught.exception.most, 8)
        self.assertEqual(told_by(store, "abcdefghi"), before)
        store.take("c")
        store.put("i", 0, still(), 9)
        self.assertEqual(store.there(), list("abdefghi"))

    def test_the_cap_bounds_the_strength(self):
        store = held()
        store.put("a", 0, still(cap=7), 7)
        self.assertEqual(wrong_place(self, store.put, "b", 0, still(cap=7), 8), 3)
        store.put("b", 0, still(cap=BILLION), BILLION)
        self.assertEqual(strengths(store), {"a": 7, "b": BILLION})

    def test_names_and_sorts(self):
        store = held()
        for sort, name in ((0, "z"), (9, "wanehold"), (4, "aa"), (1, "a")):
            store.put(name, sort, still(), 1)
            self.assertEqual(store.thing(name)[1], sort)
        self.assertEqual(store.there(), ["a", "aa", "wanehold", "z"])

    def test_the_trace_is_added_and_forgotten(self):
        store = Store([TRILLION], grain=10, fade=1)
        store.put("a", 0, falling(take=5, cap=50), 5)
        store.ask("a")
        store.ask("a")
        store.pass_on(1)
        self.assertEqual((store.there(), store.trace("a")), ([], 20))
        store.pass_on(3)
        self.assertEqual(store.trace("a"), 17)
        store.put("a", 0, still(cap=50), 4)
        self.assertEqual((store.thing("a"), store.trace("a")), ((0, 0, 21, 0, 0), 0))
        # Taken, it leaves none, and the old one is forgotten.
        store.take("a")
        self.assertEqual(store.trace("a"), 0)

    def test_the_trace_lifts_up_to_the_cap(self):
        for strength, cap, told in ((1, 50, 21), (29, 50, 49), (30, 50, 50), (31, 50, 50), (50, 50, 50), (1, 1, 1)):
            store = Store([TRILLION], grain=20)
            store.put("a", 0, falling(take=5), 5)
            store.ask("a")
            store.pass_on(1)
            store.put("a", 0, still(cap=cap), strength)
            self.assertEqual(strengths(store), {"a": told})

    def test_crowded_out_at_once(self):
        store = Store([100], grain=20)
        store.put("b", 0, falling(take=5), 5)
        store.ask("b")
        store.pass_on(1)
        self.assertEqual(store.trace("b"), 20)
        store.put("a", 0, still(), 90)
        # With its trace it is 29, too much beside 90, and the weakest; it was not asked for, so no trace is left.
        store.put("b", 0, still(), 9)
        self.assertEqual(store.there(), ["a"])
        self.assertEqual(store.trace("b"), 0)
        self.assertEqual(words(store), [
            ("b", "put", 0), ("b", "faded", 0), ("a", "put", 0), ("b", "put", 0), ("b", "crowded", 0),
        ])
        store.put("b", 0, still(), 10)
        self.assertEqual(strengths(store), {"a": 90, "b": 10})

    def test_wrong(self):
        store = held(5)
        before = told_by(store, "ab")
        wane = still(cap=10)
        for name in not_names():
            self.assertEqual(wrong_place(self, store.put, name, 0, wane, 1), 0)
            self.assertEqual(wrong_place(self, store.put, name, -1, None, 0), 0)
        for sort in (-1, 10, FAR, "0", [], (0,), *strange_things()):
            self.assertEqual(wrong_place(self, store.put, "a", sort, wane, 1), 1)
            self.assertEqual(wrong_place(self, store.put, "b", sort, None, 0), 1)
        for thing in not_wanes():
            self.assertEqual(wrong_place(self, store.put, "a", 0, thing, 1), 2)
            self.assertEqual(wrong_place(self, store.put, "b", 0, thing, 0), 2)
        for strength in (0, -1, 11, BILLION, FAR, "1", [], (1,), *strange_things()):
            self.assertEqual(wrong_place(self, store.put, "a", 0, wane, strength), 3)
            self.assertEqual(wrong_place(self, store.put, "b", 0, wane, strength), 3)
        self.assertEqual(told_by(store, "ab"), before)


class Asking(unittest.TestCase):
    def test_lifts_up_to_the_cap(self):
        store = held()
        store.put("a", 0, still(cap=20, lift=7), 3)
        told = []
        for _ in range(4):
            self.assertIsNone(store.ask("a"))
            told.append(store.thing("a"))
        self.assertEqual(told, [(0, 0, 10, 0, 1), (0, 0, 17, 0, 2), (0, 0, 20, 0, 3), (0, 0, 20, 0, 4)])
        self.assertEqual(words(store), [("a", "put", 0)])

    def test_since_where_anew_and_on(self):
        store = held()
        store.put("a", 0, still(lift=1), 3)
        store.put("b", 0, still(lift=1, anew=False), 3)
        store.pass_on(5)
        store.ask("a")
        store.ask("b")
        self.assertEqual((store.thing("a"), store.thing("b")), ((0, 0, 4, 0, 1), (0, 0, 4, 5, 1)))
        store.pass_on(2)
        self.assertEqual((store.thing("a")[3], store.thing("b")[3]), (2, 7))

    def test_gone(self):
        store = held(5)
        before = told_by(store, "ab")
        for deed in (store.ask, store.take, store.thing, store.wane_of):
            with self.assertRaises(Gone) as caught:
                deed("b")
            self.assertEqual(caught.exception.name, "b")
        self.assertEqual(told_by(store, "ab"), before)

    def test_stirs_above_nought(self):
        store = Store([TRILLION], stirs=stirring(4))
        store.put("b", 0, still(cap=10, lift=1), 8)
        store.put("a", 0, still(cap=100), 8)
        store.put("c", 0, still(cap=10), 8)
        store.put("d", 1, still(cap=100), 8)
        store.ask("b")
        self.assertEqual(strengths(store), {"a": 12, "b": 9, "c": 10, "d": 8})
        self.assertEqual([store.thing(name)[4] for name in "abcd"], [0, 1, 0, 0])
        # No stir of sort 1.
        store.ask("d")
        self.assertEqual(strengths(store), {"a": 12, "b": 9, "c": 10, "d": 8})

    def test_a_stir_leaves_the_since(self):
        store = Store([TRILLION], stirs=stirring(4))
        store.put("a", 0, still(), 8)
        store.put("b", 0, still(), 8)
        store.pass_on(3)
        store.ask("a")
        self.assertEqual((store.thing("a"), store.thing("b")), ((0, 0, 8, 0, 1), (0, 0, 12, 3, 0)))

    def test_stirs_below_nought(self):
        store = Store([TRILLION], stirs=stirring(-4), grain=1)
        for name, strength in (("b", 4), ("e", 5), ("a", 3), ("c", 2), ("d", 100)):
            store.put(name, 0, still(lift=5), strength)
        store.put("f", 1, still(), 1)
        store.ask("a")
        self.assertEqual(strengths(store), {"a": 8, "d": 96, "e": 1, "f": 1})
        # What is pressed is told by names.
        self.assertEqual(words(store)[-2:], [("b", "pressed", 0), ("c", "pressed", 0)])
        store.ask("e")
        self.assertEqual(strengths(store), {"a": 4, "d": 92, "e": 6, "f": 1})
        store.ask("d")
        self.assertEqual(strengths(store), {"d": 97, "e": 2, "f": 1})
        self.assertEqual((words(store)[-1], store.trace("a"), store.trace("b")), (("a", "pressed", 0), 1, 0))

    def test_each_sort_has_its_stir(self):
        for sort in range(10):
            store = Store([TRILLION], stirs=[k * 10 - 40 for k in range(10)])
            for name in "ab":
                store.put(name, sort, still(), 100)
            store.ask("b")
            self.assertEqual(strengths(store), {"a": 60 + 10 * sort, "b": 100})

    def test_stirs_stay_in_the_room(self):
        store = Store([100, TRILLION], stirs=stirring(4))
        for name, strength in (("a", 50), ("b", 40), ("c", 30)):
            store.put(name, 0, still(), strength)
        self.assertEqual([store.thing(name)[0] for name in "abc"], [0, 0, 1])
        store.ask("a")
        self.assertEqual(strengths(store), {"a": 50, "b": 44, "c": 30})
        store.ask("c")
        self.assertEqual(strengths(store), {"a": 50, "b": 44, "c": 30})

    def test_a_stir_of_a_billion(self):
        store = Store([TRILLION], stirs=stirring(BILLION))
        store.put("a", 0, still(cap=BILLION), 1)
        store.put("b", 0, still(cap=BILLION), 1)
        store.ask("a")
        self.assertEqual(strengths(store), {"a": 1, "b": BILLION})
        store = Store([TRILLION], stirs=stirring(-BILLION))
        store.put("a", 0, still(cap=BILLION), 1)
        store.put("b", 0, still(cap=BILLION), BILLION)
        store.ask("a")
        self.assertEqual(strengths(store), {"a": 1})

    def test_crowding_behind_an_asking(self):
        store = Store([100, 60], stirs=stirring(10))
        store.put("a", 0, still(lift=5), 45)
        store.put("b", 0, still(), 40)
        store.ask("a")
        self.assertEqual(store.state(), (("a", 0, 50, 0), ("b", 0, 50, 0)))
        store.ask("a")
        # 55 and 60 are more than 100: the weakest is the one that was asked for.
        self.assertEqual(store.state(), (("a", 1, 55, 0), ("b", 0, 60, 0)))
        self.assertEqual(words(store)[2:], [("a", "moved", 1)])

    def test_pressed_ahead_of_crowding(self):
        store = Store([100], stirs=stirring(-10))
        store.put("a", 0, still(lift=40), 60)
        store.put("b", 0, still(), 10)
        store.put("c", 0, still(), 20)
        store.ask("a")
        self.assertEqual(words(store)[3:], [("b", "pressed", 0), ("c", "crowded", 0)])
        self.assertEqual(strengths(store), {"a": 100})

    def test_wrong(self):
        store = held(5)
        before = told_by(store, "ab")
        for name in not_names():
            for call in (store.ask, store.take, store.thing, store.wane_of, store.trace):
                self.assertEqual(wrong_place(self, call, name), 0)
        self.assertEqual(told_by(store, "ab"), before)


class Taking(unittest.TestCase):
    def test_taken(self):
        store = Store([100, 50], grain=7)
        store.put("a", 0, still(), 60)
        store.put("b", 0, still(), 50)
        store.ask("a")
        store.ask("b")
        store.pass_on(2)
        self.assertIsNone(store.take("b"))
        self.assertEqual(words(store)[2:], [("b", "moved", 1), ("b", "taken", 1)])
        self.assertEqual((store.there(), store.trace("b"), store.total(1)), (["a"], 0, 0))
        store.take("a")
        self.assertEqual((store.there(), store.trace("a"), store.story()[-1]), ([], 0, (2, "a", "taken", 0)))

    def test_taken_behind_a_trace(self):
        store = Store([TRILLION], grain=7)
        store.put("a", 0, falling(take=5), 5)
        store.ask("a")
        store.pass_on(1)
        self.assertEqual(store.trace("a"), 7)
        store.put("a", 0, still(), 1)
        store.ask("a")
        store.take("a")
        self.assertEqual(store.trace("a"), 0)


class Askers(unittest.TestCase):
    def test_numbers_go_on(self):
        store = held(5)
        for number, name, hours in ((1, "a", (1,)), (2, "b", (0, 23)), (3, "a", tuple(range(24)))):
            self.assertEqual(store.hire(name, hours), number)
        self.assertIsNone(store.dismiss(2))
        self.assertEqual(store.askers(), [(1, "a", (1,)), (3, "a", tuple(range(24)))])
        store.dismiss(3)
        self.assertEqual(store.hire("zzz", (5,)), 4)
        self.assertEqual(store.askers(), [(1, "a", (1,)), (4, "zzz", (5,))])
        for number in (1, 4):
            store.dismiss(number)
        self.assertEqual((store.askers(), store.hire("a", (3,))), ([], 5))

    def test_too_many(self):
        store = held(5)
        for number in range(1, 9):
            self.assertEqual(store.hire("a", (number,)), number)
        before = told_by(store, "a")
        for _ in range(3):
            with self.assertRaises(TooMany) as caught:
                store.hire("a", (1,))
            self.assertEqual(caught.exception.most, 8)
        self.assertEqual(told_by(store, "a"), before)
        store.dismiss(3)
        # What was refused took no number.
        self.assertEqual(store.hire("b", (1,)), 9)

    def test_no_asker(self):
        store = held(5)
        store.hire("a", (1,))
        store.hire("a", (2,))
        store.dismiss(2)
        before = told_by(store, "a")
        for thing in (
            2, 0, -1, 3, FAR, 10 ** 5000, 1.0, 0.5, "1", "", [], [1], (), (1,), (1, "a", (1,)), *strange_things(),
        ):
            with self.assertRaises(NoAsker) as caught:
                store.dismiss(thing)
            self.assertIs(caught.exception.number, thing)
        self.assertEqual(told_by(store, "a"), before)
        store.dismiss(1)
        self.assertEqual(store.askers(), [])

    def test_wrong(self):
        store = held(5)
        before = told_by(store, "a")
        for name in not_names():
            self.assertEqual(wrong_place(self, store.hire, name, (1,)), 0)
            self.assertEqual(wrong_place(self, store.hire, name, ()), 0)
        for hours in ((), (24,), (-1,), (1, 1), (2, 1), [1], (True,), ("1",), (None,), 1, "1", *strange_things()):
            self.assertEqual(wrong_place(self, store.hire, "a", hours), 1)
        self.assertEqual(told_by(store, "a"), before)
        self.assertEqual(store.hire("a", (1,)), 1)

    def test_wrong_ahead_of_too_many(self):
        store = held(5)
        for hour in range(8):
            store.hire("a", (hour,))
        self.assertEqual(wrong_place(self, store.hire, "", (1,)), 0)
        self.assertEqual(wrong_place(self, store.hire, "a", ()), 1)


class Mending(unittest.TestCase):
    def test_mark_and_none(self):
        store = held(5)
        for mark in (1, 7, BILLION, None, 3, None, None):
            self.assertIsNone(store.mend(mark))
            self.assertIs(type(store.mender()), type(mark))
            self.assertEqual(store.mender(), mark)

    def test_wrong(self):
        store = held(5)
        store.mend(9)
        before = told_by(store, "a")
        for mark in (0, -1, BILLION + 1, FAR, "1", "", [], (1,), *strange_things()[1:]):
            self.assertEqual(wrong_place(self, store.mend, mark), 0)
        self.assertEqual(told_by(store, "a"), before)

    def test_asks_for_the_weakest(self):
        store = Store([100, TRILLION])
        for name, strength in (("a", 60), ("b", 30), ("c", 20), ("d", 40)):
            store.put(name, 0, still(lift=7), strength)
        store.mend(25)
        store.pass_on(1)
        self.assertEqual(strengths(store), {"a": 60, "b": 30, "c": 27, "d": 40})
        self.assertEqual([store.thing(name)[4] for name in "abcd"], [0, 0, 1, 0])
        store.pass_on(5)
        self.assertEqual(strengths(store), {"a": 60, "b": 30, "c": 27, "d": 40})
        store.mend(27)
        store.pass_on(1)
        self.assertEqual(strengths(store), {"a": 60, "b": 30, "c": 34, "d": 40})
        store.mend(None)
        store.pass_on(9)
        self.assertEqual(strengths(store), {"a": 60, "b": 30, "c": 34, "d": 40})

    def test_of_several_the_last_name(self):
        store = Store([TRILLION])
        for name in ("b", "ba", "a", "aa"):
            store.put(name, 0, still(lift=1), 5)
        store.mend(6)
        order = []
        for _ in range(8):
            before = strengths(store)
            store.pass_on(1)
            order += [name for name, strength in strengths(store).items() if strength != before[name]]
        self.assertEqual(order, ["ba", "b", "aa", "a", "ba", "b", "aa", "a"])
        store.pass_on(5)
        self.assertEqual(strengths(store), {"a": 7, "aa": 7, "b": 7, "ba": 7})

    def test_in_all_rooms_behind_the_askers(self):
        store = Store([10, 10, TRILLION])
        for name, strength in (("a", 9), ("b", 8), ("c", 7)):
            store.put(name, 0, still(lift=2), strength)
        self.assertEqual([store.thing(name)[0] for name in "abc"], [0, 1, 2])
        store.hire("c", (1,))
        store.mend(8)
        store.pass_on(1)
        # The asker lifts c to 9, so that b is the weakest then.
        self.assertEqual(strengths(store), {"a": 9, "b": 10, "c": 9})

    def test_a_mender_stirs_and_presses(self):
        store = Store([TRILLION], stirs=stirring(-5))
        for name, strength in (("a", 5), ("b", 3), ("c", 20)):
            store.put(name, 0, still(lift=7), strength)
        store.mend(3)
        store.pass_on(1)
        self.assertEqual(strengths(store), {"b": 10, "c": 15})
        self.assertEqual(store.story()[-1], (1, "a", "pressed", 0))


class OneTurn(unittest.TestCase):
    def test_things_wane_by_their_steps(self):
        store = held()
        store.put("a", 0, Wane([(1, 1), (2, 0)], [(1, 3), (3, 2), (2, 1)], cap=100, lift=30), 50)
        store.put("b", 0, Wane([(2, 2)], [(1, 0)], cap=100, lift=30), 50)
        told = []
        for _ in range(5):
            store.pass_on(1)
            told.append((store.now(), strengths(store)))
        self.assertEqual(told, [
            (1, {"a": 49, "b": 23}), (2, {"a": 24, "b": 23}), (3, {"a": 21, "b": 23}), (4, {"a": 5, "b": 23}),
            (5, {"a": 1, "b": 23}),
        ])
        self.assertEqual(store.state(), (("a", 0, 1, 2), ("b", 0, 23, 1)))
        store.pass_on(1)
        self.assertEqual((store.there(), store.story()[-1]), (["b"], (6, "a", "faded", 0)))

    def test_faded_by_names(self):
        store = held()
        for name in ("c", "aa", "b", "a", "d"):
            store.put(name, 0, falling(), 2 if name == "d" else 1)
        store.pass_on(1)
        self.assertEqual(words(store)[5:], [(name, "faded", 0) for name in ("a", "aa", "b", "c")])
        self.assertEqual(strengths(store), {"d": 1})

    def test_askers_at_their_hours(self):
        store = held()
        store.put("a", 0, still(lift=1), 1)
        store.hire("a", (0, 2, 23))
        told = []
        for _ in range(27):
            store.pass_on(1)
            told.append(store.thing("a")[2])
        self.assertEqual(told, [1] + [2] * 21 + [3, 4, 4, 5, 5])

    def test_hired_at_an_hour_asks_a_day_later(self):
        store = held()
        store.put("a", 0, still(lift=1), 1)
        store.pass_on(3)
        store.hire("a", (3,))
        store.pass_on(23)
        self.assertEqual(strengths(store), {"a": 1})
        store.pass_on(1)
        self.assertEqual(strengths(store), {"a": 2})

    def test_askers_by_their_numbers(self):
        # Who is asked for first is lifted, and presses the other one.
        for order, left in ((("a", "b"), "a"), (("b", "a"), "b")):
            store = Store([TRILLION], stirs=stirring(-5))
            for name in "ab":
                store.put(name, 0, still(lift=5), 5)
            for name in order:
                store.hire(name, (1,))
            store.pass_on(1)
            self.assertEqual(strengths(store), {left: 10})
            # The other one is gone when its asker comes, and asks for nothing.
            self.assertEqual(store.thing(left), (0, 0, 10, 0, 1))

    def test_several_askers_of_one_name(self):
        store = held()
        store.put("a", 0, still(cap=12, lift=5), 1)
        for _ in range(4):
            store.hire("a", (1,))
        store.pass_on(1)
        self.assertEqual(store.thing("a"), (0, 0, 12, 0, 4))

    def test_askers_of_what_is_not_there(self):
        store = held(5)
        store.hire("z", (1, 2))
        store.pass_on(1)
        store.put("z", 0, still(lift=5), 1)
        store.pass_on(1)
        self.assertEqual(strengths(store), {"a": 5, "z": 6})
        self.assertEqual(store.trace("z"), 0)

    def test_faded_ahead_of_the_asking(self):
        store = held()
        store.put("a", 0, falling(lift=9), 1)
        store.hire("a", (1,))
        store.pass_on(1)
        self.assertEqual(words(store), [("a", "put", 0), ("a", "faded", 0)])

    def test_crowding_comes_once_behind_the_askings(self):
        store = Store([100], stirs=stirring(-30))
        store.put("a", 0, still(lift=50), 60)
        store.put("c", 0, still(lift=10), 40)
        store.hire("a", (1,))
        store.hire("c", (1,))
        store.pass_on(1)
        # 110 and 10, more than the room holds, between the askings; then 80 and 20.
        self.assertEqual((strengths(store), len(store.story())), ({"a": 80, "c": 20}, 2))
        store.dismiss(2)
        store.pass_on(24)
        # 130, and c is pressed; a alone is too much.
        self.assertEqual(store.story()[2:], [(25, "c", "pressed", 0), (25, "a", "crowded", 0)])

    def test_crowding_comes_in_each_turn(self):
        store = Store([100, 50])
        store.put("a", 0, still(lift=30), 60)
        store.put("b", 0, still(), 40)
        store.hire("a", (2,))
        store.pass_on(1)
        self.assertEqual(store.thing("b")[0], 0)
        store.pass_on(1)
        self.assertEqual((store.story()[-1], store.thing("b")[0]), ((2, "b", "moved", 1), 1))

    def test_the_order_of_the_story(self):
        store = Store([30, 10], stirs=[-4, -4] + [0] * 8)
        for name, sort, strength, take in (
            ("a", 0, 3, 0), ("b", 0, 3, 0), ("c", 1, 3, 0), ("d", 2, 1, 1), ("e", 0, 9, 0), ("f", 1, 10, 0),
            ("g", 2, 1, 1),
        ):
            store.put(name, sort, falling(take=take, lift=20), strength)
        store.hire("f", (1,))
        store.hire("e", (1,))
        store.pass_on(1)
        self.assertEqual(store.story()[7:], [
            (1, "d", "faded", 0), (1, "g", "faded", 0), (1, "c", "pressed", 0), (1, "a", "pressed", 0),
            (1, "b", "pressed", 0), (1, "e", "moved", 1), (1, "e", "crowded", 1),
        ])
        self.assertEqual(store.state(), (("f", 0, 30, 0),))


class Crowding(unittest.TestCase):
    def test_from_room_to_room_and_out(self):
        store = Store([100, 50, 20], grain=3)
        for name, strength in (("a", 60), ("b", 40), ("c", 30), ("d", 25), ("e", 10)):
            store.put(name, 0, still(), strength)
        # d is too much in room 0, beside c in room 1, and alone in room 2.
        self.assertEqual(store.state(), (("a", 0, 60, 0), ("b", 0, 40, 0), ("c", 1, 30, 0), ("e", 1, 10, 0)))
        self.assertEqual(words(store), [
            ("a", "put", 0), ("b", "put", 0), ("c", "put", 0), ("c", "moved", 1), ("d", "put", 0), ("d", "moved", 1),
            ("d", "moved", 2), ("d", "crowded", 2), ("e", "put", 0), ("e", "moved", 1),
        ])
        self.assertEqual([store.total(room) for room in range(3)], [100, 40, 0])

    def test_the_weakest_with_the_last_name(self):
        store = Store([30, TRILLION])
        for name in ("ba", "a", "b", "aa"):
            store.put(name, 0, still(), 10)
        self.assertEqual(words(store)[-1], ("ba", "moved", 1))
        store.put("c", 0, still(), 11)
        self.assertEqual(words(store)[-3:], [("c", "put", 0), ("b", "moved", 1), ("aa", "moved", 1)])
        self.assertEqual(strengths(store), {"a": 10, "aa": 10, "b": 10, "ba": 10, "c": 11})
        self.assertEqual([store.total(0), store.total(1)], [21, 30])

    def test_alone_and_too_much(self):
        store = Store([10, 30, 20])
        store.put("a", 0, still(), 25)
        self.assertEqual(store.state(), (("a", 1, 25, 0),))
        # b is too much for each room, and drives a out.
        store.put("b", 0, still(), 35)
        self.assertEqual(words(store)[2:], [
            ("b", "put", 0), ("b", "moved", 1), ("a", "moved", 2), ("b", "moved", 2), ("a", "crowded", 2),
            ("b", "crowded", 2),
        ])
        self.assertEqual(store.there(), [])
        store = Store([10])
        store.put("a", 0, still(), 11)
        self.assertEqual(words(store), [("a", "put", 0), ("a", "crowded", 0)])
        store.put("a", 0, still(), 10)
        self.assertEqual((words(store)[2:], store.there()), ([("a", "put", 0)], ["a"]))

    def test_a_strong_one_drives_the_weak_one_on(self):
        store = Store([10, 30, 20])
        store.put("a", 0, still(), 15)
        store.put("b", 0, still(), 28)
        # In room 1 a is the weaker one, though it was there first.
        self.assertEqual(store.state(), (("a", 2, 15, 0), ("b", 1, 28, 0)))
        store.put("c", 0, still(), 40)
        # c is too much for each room; b, then a, are weaker, and go first.
        self.assertEqual(words(store)[5:], [
            ("c", "put", 0), ("c", "moved", 1), ("b", "moved", 2), ("c", "moved", 2), ("a", "crowded", 2),
            ("b", "crowded", 2), ("c", "crowded", 2),
        ])
        self.assertEqual(store.there(), [])

    def test_just_as_it_is(self):
        store = Store([100, 100])
        wane = still(lift=1, anew=False)
        store.put("a", 4, wane, 50)
        store.pass_on(7)
        store.ask("a")
        store.put("b", 0, still(), 60)
        self.assertEqual(store.thing("a"), (1, 4, 51, 7, 1))
        self.assertEqual(store.wane_of("a").text(), wane.text())

    def test_crowded_leaves_a_trace(self):
        store = Store([100], grain=3, fade=2)
        store.put("a", 4, still(lift=1), 50)
        store.ask("a")
        store.pass_on(7)
        store.put("b", 0, still(), 60)
        self.assertEqual((store.there(), store.trace("a")), (["b"], 3))
        store.pass_on(1)
        self.assertEqual(store.trace("a"), 1)


class Traces(unittest.TestCase):
    def gone(self, grain, fade, askings):
        """A store from which a faded at moment 2."""
        store = Store([TRILLION], grain=grain, fade=fade)
        store.put("a", 0, falling(take=5), 10)
        for _ in range(askings):
            store.ask("a")
        self.assertEqual(store.trace("a"), 0)
        store.pass_on(2)
        self.assertEqual(store.there(), [])
        return store

    def test_lose_by_the_fade_never_below_nought(self):
        store = self.gone(4, 5, 3)
        told = []
        for _ in range(5):
            told.append(store.trace("a"))
            store.pass_on(1)
        self.assertEqual(told, [12, 7, 2, 0, 0])
        store.pass_on(FAR)
        self.assertEqual(store.trace("a"), 0)

    def test_none_where_not_asked_for_or_no_grain(self):
        self.assertEqual(self.gone(4, 1, 0).trace("a"), 0)
        self.assertEqual(self.gone(0, 1, 4).trace("a"), 0)
        self.assertEqual(self.gone(BILLION, BILLION, 3).trace("a"), 3 * BILLION)

    def test_of_names_that_left_none(self):
        store = self.gone(4, 5, 3)
        self.assertEqual([store.trace(name) for name in ("b", "aa", "wanehold")], [0, 0, 0])

    def test_great_ones(self):
        store = Store([TRILLION], grain=BILLION)
        store.put("a", 0, still(lift=1), 1)
        store.hire("a", tuple(range(24)))
        store.pass_on(FAR)
        self.assertEqual(store.thing("a"), (0, 0, 1000, 0, FAR))
        store.put("b", 0, still(cap=BILLION), BILLION)
        store.dismiss(1)
        store.put("c", 0, still(cap=BILLION), BILLION)
        tight = Store([1000], grain=BILLION)
        tight.put("a", 0, still(lift=1), 1)
        tight.hire("a", tuple(range(24)))
        tight.pass_on(FAR)
        tight.put("b", 0, still(cap=BILLION), 1000)
        # Both are as weak: the last name goes.
        self.assertEqual(tight.there(), ["a"])
        tight.put("c", 0, still(cap=2000), 2000)
        self.assertEqual((tight.there(), tight.trace("a")), ([], FAR * BILLION))
        tight.pass_on(FAR)
        self.assertEqual(tight.trace("a"), FAR * BILLION - FAR)
        tight.put("a", 0, still(cap=999), 1)
        self.assertEqual(strengths(tight), {"a": 999})


class Told(unittest.TestCase):
    def full(self):
        store = Store([100, 50], stirs=stirring(2), grain=3, fade=2)
        for name, strength in (("a", 60), ("b", 50), ("c", 1)):
            store.put(name, 0, falling(lift=4), strength)
        store.hire("a", (1, 2))
        store.hire("zz", (3,))
        store.pass_on(3)
        return store

    def test_by_hand(self):
        self.assertEqual(told_by(self.full(), ["a", "b", "c"]), {
            "now": 3, "there": ["a", "b"], "things": [(0, 0, 65, 1, 2), (1, 0, 47, 3, 0)],
            "wanes": [falling(lift=4).text()] * 2, "totals": [65, 47], "traces": [0, 0, 0],
            "askers": [(1, "a", (1, 2)), (2, "zz", (3,))], "mender": None, "state": (("a", 0, 65, 0), ("b", 1, 47, 0)),
            "story": [
                (0, "a", "put", 0), (0, "b", "put", 0), (0, "b", "moved", 1), (0, "c", "put", 0), (1, "c", "faded", 0),
            ],
            "made": ([100, 50], stirring(2), 3, 2),
        })

    def test_kinds(self):
        store = self.full()
        for told in (store.rooms(), store.stirs(), store.there(), store.askers(), store.story()):
            self.assertIs(type(told), list)
        for told in (store.thing("a"), store.state(), store.state()[0], store.askers()[0], store.story()[0]):
            self.assertIs(type(told), tuple)
        self.assertIs(type(store.wane_of("a")), Wane)
        self.assertIs(type(store.copied()), Store)

    def test_whatever_becomes_of_the_lists_told(self):
        store = self.full()
        before = told_by(store, "abc")
        for ask in (store.rooms, store.stirs, store.there, store.askers, store.story):
            self.assertIsNot(ask(), ask())
            ask().append(5)
            ask().clear()
            told = ask()
            told[0] = None
        self.assertEqual(told_by(store, "abc"), before)
        store.pass_on(1)
        self.assertEqual(store.thing("a")[2], 64)

    def test_the_state_tells_phases(self):
        store = held()
        wane = Wane([(1, 0)] * 2, [(1, 0)] * 3, cap=5, lift=0)
        store.put("a", 0, wane, 5)
        told = []
        for _ in range(10):
            told.append(store.state()[0][3])
            store.pass_on(1)
        self.assertEqual(told, [0, 1, 2, 3, 4, 2, 3, 4, 2, 3])
        store.pass_on(FAR - 10)
        self.assertEqual((store.thing("a")[3], store.state()), (FAR, (("a", 0, 5, wane.phase(FAR)),)))

    def test_total_wrong(self):
        store = self.full()
        for many in range(1, 5):
            other = Store([5] * many)
            self.assertEqual([other.total(room) for room in range(many)], [0] * many)
            for room in (-1, many, many + 1, FAR, "0", "", [], (0,), *strange_things()):
                self.assertEqual(wrong_place(self, other.total, room), 0)
        self.assertEqual((store.total(0), store.total(1)), (65, 47))

    def test_questions_change_nothing(self):
        store = self.full()
        before = told_by(store, "abc")
        for _ in range(3):
            self.assertEqual(told_by(store, "abc"), before)


class Copies(unittest.TestCase):
    def test_a_copy_tells_the_same_and_goes_on_by_itself(self):
        store = Told().full()
        before = told_by(store, "abc")
        copy = store.copied()
        self.assertIsNot(copy, store)
        self.assertEqual(told_by(copy, "abc"), before)
        copy.ask("a")
        copy.put("d", 1, still(), 5)
        copy.take("b")
        copy.hire("d", (5,))
        copy.dismiss(1)
        copy.mend(9)
        copy.pass_on(30)
        self.assertEqual(told_by(store, "abc"), before)
        after = told_by(copy, "abc")
        store.take("a")
        store.pass_on(100)
        self.assertEqual(told_by(copy, "abc"), after)

    def test_numbers_and_traces_go_on(self):
        store = Store([TRILLION], grain=9)
        store.put("a", 0, falling(), 1)
        store.ask("a")
        store.pass_on(1)
        store.hire("a", (1,))
        store.dismiss(1)
        copy = store.copied()
        self.assertEqual((copy.trace("a"), copy.hire("a", (1,)), store.hire("b", (2,))), (9, 2, 2))
        copy.put("a", 0, still(), 1)
        self.assertEqual((store.trace("a"), copy.trace("a"), strengths(copy)), (9, 0, {"a": 10}))

    def test_the_same_deeds_tell_the_same(self):
        store, _ = some_stores(random.Random(5))
        store.put("a", 0, falling(lift=2, cap=3), 3)
        copy = store.copied()
        for one in (store, copy):
            one.hire("a", (1, 7))
            one.pass_on(100)
        self.assertEqual(told_by(store, NAMES), told_by(copy, NAMES))

    def test_two_stores_know_nothing_of_one_another(self):
        one, other = Store([50]), Store([50])
        one.put("a", 0, still(), 9)
        one.hire("a", (1,))
        self.assertEqual((other.there(), other.askers(), other.story(), other.hire("b", (2,))), ([], [], [], 1))


class Refusals(unittest.TestCase):
    def test_what_is_refused_changes_nothing(self):
        store = Store([100, 50], stirs=stirring(2), grain=3, fade=2)
        for name in "abcdefgh":
            store.put(name, 0, still(lift=1), 5)
            store.hire(name, (3,))
        store.mend(4)
        store.pass_on(2)
        before = told_by(store, NAMES)
        for error, deed, given in (
            (There, store.put, ("a", 0, still(), 5)), (TooMany, store.put, ("zz", 0, still(), 5)),
            (Gone, store.ask, ("zz",)), (Gone, store.take, ("zz",)), (TooMany, store.hire, ("a", (1,))),
            (NoAsker, store.dismiss, (9,)), (NoAsker, store.dismiss, (True,)),
        ):
            for _ in range(2):
                with self.assertRaises(error) as caught:
                    deed(*given)
                self.assertIs(type(caught.exception), error)
                self.assertEqual(told_by(store, NAMES), before)
        for turns in not_moments():
            self.assertEqual(wrong_place(self, store.pass_on, turns), 0)
        self.assertEqual(told_by(store, NAMES), before)
        store.dismiss(1)
        self.assertEqual(store.hire("a", (1,)), 9)


class ByChance(unittest.TestCase):
    def test_deeds_held_against_the_document(self):
        chance = random.Random(23)
        for _ in range(150):
            store, slow = some_stores(chance)
            do_some(self, chance, store, slow, 40)


if __name__ == "__main__":
    unittest.main()
