import random
import unittest
from itertools import product

from deeds import some_wane, still
from slow_store import slow_phase
from things import BILLION, FAR, calls_of, not_wanes, strange_things, wrong_place
from wanehold import alike as file
from wanehold.alike import alike
from wanehold.errors import TooMany
from wanehold.single import along
from wanehold.store import Store
from wanehold.wanes import Wane, read_wane


def falling(cap=9, lift=0, anew=True, take=1):
    return Wane([], [(1, take)], cap=cap, lift=lift, anew=anew)


def slow_state(wane, strength, row):
    """The state behind a row."""
    state, since = along(wane, strength, row)[-1]
    return None if state == 0 else (state, slow_phase(wane, since))


def slow_alike(one, strength, other, far, most, long):
    """What alike tells, by all rows up to a length, in their order; None where that is not far enough."""
    pairs = []
    for many in range(long + 1):
        before = len(pairs)
        for row in map("".join, product(".a", repeat=many)):
            pair = (slow_state(one, strength, row), slow_state(other, far, row))
            if pair in [known[1:] for known in pairs]:
                continue
            pairs.append((row, *pair))
            if len(pairs) > most:
                return ("too many", most)
            if pair.count(None) == 1:
                return ("parted", row)
        if len(pairs) == before:
            return ("alike", pairs)
    return None


def told_of(*given, **named):
    try:
        return alike(*given, **named)
    except TooMany as refusal:
        return ("too many", refusal.most)


class Alike(unittest.TestCase):
    def test_at_once(self):
        self.assertEqual(alike(still(cap=5), 5, still(cap=5), 5), ("alike", [("", (5, 0), (5, 0))]))
        self.assertEqual(alike(still(cap=5), 5, still(cap=7, lift=0), 3), ("alike", [("", (5, 0), (3, 0))]))

    def test_both_gone_are_one_pair(self):
        told = alike(falling(), 1, falling(take=2), 2)
        self.assertEqual(told, ("alike", [("", (1, 0), (2, 0)), (".", None, None)]))
        told = alike(falling(), 3, falling(), 3)
        self.assertEqual(told[1][-1], ("...", None, None))
        self.assertEqual(len(told[1]), 4)

    def test_unlike_texts(self):
        # 2 less each turn of twice as much, by twice the lift and the cap.
        one, other = falling(cap=5, lift=2), falling(cap=10, lift=4, take=2)
        told = alike(one, 3, other, 6)
        self.assertEqual(told[0], "alike")
        for _, state, far in told[1]:
            self.assertEqual(far, state and (2 * state[0], 0))
        # A head that is the tail's beginning, and steps twice over.
        self.assertEqual(alike(Wane([(1, 1)], [(1, 1)], cap=5, lift=1), 4, falling(cap=5, lift=1), 4)[0], "alike")
        self.assertEqual(
            alike(Wane([], [(1, 1), (1, 1)], cap=5, lift=1, anew=False), 4, falling(cap=5, lift=1, anew=False), 4)[0],
            "alike",
        )

    def test_anew_and_not(self):
        anew = Wane([], [(1, 0), (1, 1)], cap=3, lift=3, anew=True)
        on = Wane([], [(1, 0), (1, 1)], cap=3, lift=3, anew=False)
        self.assertEqual(alike(anew, 3, anew, 3)[0], "alike")
        # Behind a turn and an asking the one has the step that takes nothing, the other the one that takes.
        told = alike(anew, 1, on, 1)
        self.assertEqual(told, ("parted", slow_alike(anew, 1, on, 1, 200, 8)[1]))

    def test_parted_by_a_turn(self):
        self.assertEqual(alike(falling(), 1, falling(), 2), ("parted", "."))
        self.assertEqual(alike(falling(), 2, falling(), 1), ("parted", "."))
        self.assertEqual(alike(falling(), 5, falling(), 6), ("parted", "....."))

    def test_parted_by_an_asking(self):
        one, other = falling(lift=1), falling(lift=2)
        self.assertEqual(alike(one, 1, other, 1), ("parted", "a.."))
        # By the caps alone.
        self.assertEqual(alike(falling(cap=2, lift=2), 2, falling(cap=3, lift=2), 2), ("parted", "a.."))
        # A turn comes ahead of an asking.
        self.assertEqual(alike(falling(lift=1), 2, falling(lift=2), 2), ("parted", ".a.."))

    def test_parted_by_a_long_row(self):
        self.assertEqual(alike(falling(cap=BILLION), 150, falling(cap=BILLION), 151), ("parted", "." * 150))
        told = alike(falling(cap=BILLION), 399, falling(cap=BILLION), 400, most=400)
        self.assertEqual(told, ("parted", "." * 399))

    def test_rows_told_are_first_rows(self):
        told = alike(falling(cap=4, lift=2), 3, falling(cap=4, lift=2), 3)
        self.assertEqual(told, ("alike", [
            ("", (3, 0), (3, 0)), (".", (2, 0), (2, 0)), ("a", (4, 0), (4, 0)), ("..", (1, 0), (1, 0)),
            ("...", None, None),
        ]))

    def test_kinds(self):
        told = alike(falling(), 3, falling(), 3)
        self.assertTrue(type(told) is tuple and type(told[1]) is list)
        self.assertTrue(all(type(row) is tuple and len(row) == 3 and type(row[0]) is str for row in told[1]))
        told[1].clear()
        self.assertEqual(len(alike(falling(), 3, falling(), 3)[1]), 4)

    def test_held_against_all_rows(self):
        chance = random.Random(91)
        told = {"alike": 0, "parted": 0, "too many": 0}
        while min(told.values()) < 40:
            one = self.small_wane(chance)
            other = one if chance.random() < 0.5 else self.small_wane(chance)
            if chance.random() < 0.2:
                other = Wane(one.head(), one.tail(), cap=one.cap(), lift=one.lift(), anew=not one.is_anew())
            strength, far = chance.randint(1, one.cap()), chance.randint(1, other.cap())
            if other.cap() == one.cap() and chance.random() < 0.7:
                far = strength
            most = chance.choice([1, 2, 3, 5, 8, 13, 200, 200])
            wanted = slow_alike(one, strength, other, far, most, 7)
            if wanted is not None:
                self.assertEqual(told_of(one, strength, other, far, most=most), wanted)
                told[wanted[0]] += 1

    def small_wane(self, chance):
        cap = chance.randint(1, 4)
        steps = [(chance.choice([1, 1, 2]), chance.choice([0, 0, 1, 2])) for _ in range(5)]
        return Wane(
            steps[:chance.choice([0, 0, 1, 2])], steps[2:2 + chance.choice([1, 2, 3])], cap=cap,
            lift=chance.choice([0, 1, 2]), anew=chance.random() < 0.5,
        )

    def test_alike_rows_are_closed(self):
        chance = random.Random(92)
        looked = 0
        while looked < 40:
            one = some_wane(chance, caps=(10, 30))
            other = read_wane(one.text())
            strength = chance.randint(1, one.cap())
            told = told_of(one, strength, other, strength, most=400)
            if told[0] != "alike":
                self.assertEqual(told, ("too many", 400))
                continue
            looked += 1
            pairs = [row[1:] for row in told[1]]
            self.assertEqual(len(set(pairs)), len(pairs))
            rows = [row[0] for row in told[1]]
            self.assertEqual(rows, sorted(rows, key=lambda row: (len(row), row)))
            for row, *pair in told[1]:
                self.assertEqual([slow_state(one, strength, row), slow_state(other, strength, row)], pair)
                for sign in ".a":
                    behind = (slow_state(one, strength, row + sign), slow_state(other, strength, row + sign))
                    self.assertIn(behind, pairs)

    def test_alike_behind_every_row_and_in_stores(self):
        chance = random.Random(93)
        one, other = falling(cap=5, lift=2), falling(cap=10, lift=4, take=2)
        self.assertEqual(alike(one, 3, other, 6)[0], "alike")
        for _ in range(50):
            row = "".join(chance.choice("..a") for _ in range(200))
            self.assertEqual(*[along(wane, x, row)[-1][0] > 0 for wane, x in ((one, 3), (other, 6))])
            stores = []
            for wane, strength in ((one, 3), (other, 6)):
                store = Store([100])
                store.put("b", 0, wane, strength)
                store.hire("b", tuple(sorted(chance.sample(range(24), 11))) if not stores else stores[0].askers()[0][2])
                stores.append(store)
            for _ in range(40):
                self.assertEqual(stores[0].there(), stores[1].there())
                for store in stores:
                    store.pass_on(1)
            self.assertEqual(stores[0].story(), stores[1].story())


class Refused(unittest.TestCase):
    def test_at_as_many_pairs_and_at_one_more(self):
        # From many down to 1, and both gone.
        for many in (1, 2, 5, 198, 199, 200, 398, 399, 400):
            wane = falling(cap=BILLION)
            for most in (many, many + 1, many + 2):
                if most > 400:
                    continue
                told = told_of(wane, many, wane, many, most=most)
                if most == many:
                    self.assertEqual(told, ("too many", many))
                else:
                    self.assertEqual((told[0], len(told[1])), ("alike", many + 1))

    def test_parted_behind_the_most(self):
        for most in range(1, 12):
            told = told_of(falling(), 8, falling(), 9, most=most)
            # The pair that is parted is number 9.
            self.assertEqual(told, ("parted", "........") if most >= 9 else ("too many", most))

    def test_two_hundred_are_left_out(self):
        wane = falling(cap=BILLION)
        self.assertEqual(told_of(wane, 199, wane, 199)[0], "alike")
        self.assertEqual(told_of(wane, 200, wane, 200), ("too many", 200))
        self.assertEqual(told_of(wane, 200, wane, 200, most=201)[0], "alike")
        self.assertEqual(told_of(wane, 199, wane, 200), ("parted", "." * 199))
        self.assertEqual(told_of(wane, 200, wane, 201), ("too many", 200))

    def test_wrong(self):
        good = (falling(), 3, falling(cap=5), 5)
        strengths = [0, -1, 10, FAR, "1", "", [], [1], (1,), *strange_things()]
        for at, things in ((0, not_wanes()), (1, strengths), (2, not_wanes()), (3, [*strengths, 6])):
            for thing in things:
                self.assertEqual(wrong_place(self, alike, *good[:at], thing, *good[at + 1:]), at)
                self.assertEqual(wrong_place(self, alike, *good[:at], thing, *good[at + 1:], most=0), at)
                self.assertEqual(wrong_place(self, alike, *good[:at], *[thing] * (4 - at), most=0), at)
        for most in (0, -1, 401, FAR, "1", [], *strange_things()):
            self.assertEqual(wrong_place(self, alike, *good, most=most), 4)

    def test_behind_the_star(self):
        with self.assertRaises(TypeError):
            alike(falling(), 3, falling(), 3, 200)

    def test_few_steps(self):
        wane = falling(cap=BILLION, lift=1)
        told, many = calls_of(told_of, wane, BILLION, wane, BILLION, most=400)
        self.assertEqual(told, ("too many", 400))
        self.assertLess(many, 50000)

    def test_defined_in_its_file(self):
        self.assertEqual((alike.__module__, file.__name__), ("wanehold.alike", "wanehold.alike"))


if __name__ == "__main__":
    unittest.main()
