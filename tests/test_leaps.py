import random
import unittest

from deeds import NAMES, TRILLION, daily, do_some, late_stores, passed_on, some_stores, still
from slow_store import told_by
from things import BILLION, FAR, calls_of, strange_things, wrong_place
from wanehold import leaps
from wanehold.errors import Busy
from wanehold.leaps import foreseen
from wanehold.store import Store
from wanehold.wanes import Wane


def rests(store, moment):
    """Whether the state at a moment is that of 24 turns later."""
    copy = passed_on(store, moment - store.now())
    return copy.state() == passed_on(copy, 24).state()


class ByHand(unittest.TestCase):
    def test_an_empty_store(self):
        store = Store([50])
        self.assertEqual(foreseen(store), (0, []))
        store.pass_on(FAR)
        store.hire("a", (1,))
        self.assertEqual(foreseen(store), (FAR, []))

    def test_nothing_goes(self):
        store = Store([TRILLION])
        store.put("a", 0, still(), 9)
        self.assertEqual(foreseen(store), (0, []))
        store.pass_on(7)
        self.assertEqual(foreseen(store), (7, []))
        # A head of five steps, which take nothing, has phases of its own.
        store.put("b", 0, Wane([(1, 0)] * 5, [(1, 0)] * 3, cap=9, lift=0), 9)
        self.assertEqual(foreseen(store), (12, []))
        # Asked for at each hour 0, it is at rest when its steps begin anew.
        store.hire("b", (0,))
        self.assertEqual(foreseen(store), (24, []))
        store.pass_on(17)
        self.assertEqual(foreseen(store), (24, []))

    def test_one_fades(self):
        store = Store([TRILLION])
        store.put("a", 0, Wane([], [(1, 1)], cap=9, lift=0), 9)
        self.assertEqual(foreseen(store), (9, [(9, "a", "faded", 0)]))
        store.pass_on(8)
        self.assertEqual(foreseen(store), (9, [(9, "a", "faded", 0)]))
        store.pass_on(1)
        self.assertEqual(foreseen(store), (9, []))
        store.pass_on(1)
        self.assertEqual(foreseen(store), (10, []))

    def test_far_off(self):
        store = Store([TRILLION])
        store.put("a", 0, daily(1), BILLION)
        self.assertEqual(foreseen(store), (24 * BILLION, [(24 * BILLION, "a", "faded", 0)]))
        store.put("b", 0, daily(1, lift=3), 4)
        store.hire("b", (7,))
        self.assertEqual(foreseen(store), (24 * BILLION, [(24 * BILLION, "a", "faded", 0)]))
        store.take("a")
        # b is 7 at the first hour 7, and rises by 2 a day, to the cap on day 499999997.
        rest = 24 * 499999997 + 7
        self.assertEqual(foreseen(store), (rest, []))
        self.assertTrue(rests(store, rest) and not rests(store, rest - 1))

    def test_one_after_the_other_far_off(self):
        store = Store([BILLION, 10 ** 8], stirs=[0, -1] + [0] * 8)
        store.put("a", 0, still(lift=1), BILLION - 500)
        store.put("d", 1, still(), 10 ** 7)
        store.put("b", 0, still(), 400)
        store.put("c", 1, still(), 50)
        self.assertEqual(store.story()[2:], [(0, "d", "moved", 1), (0, "b", "put", 0), (0, "c", "put", 0)])
        store.hire("a", (5,))
        store.hire("c", (6,))
        # As a rises, c moves to d, and presses it by one a day from then on.
        pressed = 24 * (50 + 10 ** 7 - 1) + 6
        self.assertEqual(foreseen(store), (pressed, [
            (24 * 50 + 5, "c", "moved", 1), (24 * 100 + 5, "b", "moved", 1), (pressed, "d", "pressed", 1),
        ]))

    def test_rows_of_the_story_till_now_are_left_out(self):
        store = Store([50, 20], grain=1)
        store.put("a", 0, Wane([], [(1, 1)], cap=90, lift=0), 40)
        store.put("b", 0, Wane([], [(1, 1)], cap=90, lift=0), 15)
        self.assertEqual(len(store.story()), 3)
        self.assertEqual(foreseen(store), (40, [(15, "b", "faded", 1), (40, "a", "faded", 0)]))

    def test_busy(self):
        store = Store([50])
        store.put("a", 0, still(), 9)
        store.mend(5)
        before = told_by(store, "a")
        with self.assertRaises(Busy):
            foreseen(store)
        self.assertEqual(told_by(store, "a"), before)
        store.hire("a", (1,))
        store.mend(None)
        self.assertEqual(foreseen(store), (0, []))

    def test_wrong(self):
        for thing in (0, 1, "", "a", [], (), [Store([1])], Store, *strange_things()):
            self.assertEqual(wrong_place(self, foreseen, thing), 0)

    def test_told_lists_are_new_ones(self):
        store = Store([TRILLION])
        store.put("a", 0, Wane([], [(1, 1)], cap=9, lift=0), 9)
        told = foreseen(store)
        self.assertTrue(type(told) is tuple and type(told[1]) is list and type(told[1][0]) is tuple)
        told[1].clear()
        self.assertEqual(foreseen(store), (9, [(9, "a", "faded", 0)]))
        self.assertEqual(store.story(), [(0, "a", "put", 0)])

    def test_defined_in_its_file(self):
        self.assertEqual(foreseen.__module__, leaps.__name__)
        self.assertEqual(leaps.__name__, "wanehold.leaps")


class ByChance(unittest.TestCase):
    def look_at(self, store):
        """Hold what is foreseen against passing copies on."""
        before = told_by(store, NAMES)
        rest, rows = foreseen(store)
        self.assertEqual(told_by(store, NAMES), before)
        self.assertEqual(foreseen(store), (rest, rows))
        self.assertGreaterEqual(rest, store.now())
        self.assertTrue(rests(store, rest))
        self.assertTrue(rest == store.now() or not rests(store, rest - 1))
        for turns in (rest - store.now(), rest - store.now() + 1, FAR):
            self.assertEqual(passed_on(store, turns).story(), store.story() + rows)
        for turns in (24, 10 ** 6, 10 ** 20):
            self.assertTrue(rests(store, rest + turns))
        for moment, *_ in rows:
            self.assertTrue(store.now() < moment <= rest)
        return rest, rows

    def test_chance_stores(self):
        chance = random.Random(41)
        for _ in range(120):
            store, slow = some_stores(chance)
            do_some(self, chance, store, slow, chance.choice([5, 15, 40]))
            store.mend(None)
            slow.mend(None)
            rest, rows = self.look_at(store)
            if rest - slow.moment < 3000:
                states = [slow.state()]
                many = len(slow.rows)
                for _ in range(rest - slow.moment + 24):
                    slow.turn()
                    states.append(slow.state())
                self.assertEqual(slow.rows[many:], rows)
                alike = [one == other for one, other in zip(states, states[24:])]
                self.assertEqual(alike, [False] * (len(alike) - 1) + [True])

    def test_late_stores(self):
        chance = random.Random(42)
        latest = 0
        for _ in range(40):
            store, _ = late_stores(chance)
            rest, _ = self.look_at(store)
            latest = max(latest, rest)
        self.assertGreater(latest, 5000)

    def test_few_steps_however_far(self):
        chance = random.Random(43)
        for _ in range(40):
            store, slow = some_stores(chance) if chance.random() < 0.5 else late_stores(chance)
            do_some(self, chance, store, slow, 15)
            store.mend(None)
            self.assertLess(calls_of(foreseen, store)[1], 3 * 10 ** 6)


if __name__ == "__main__":
    unittest.main()
