import random
import unittest
from fractions import Fraction

from deeds import TAILS
from slow_store import SlowStore, slow_step
from things import BILLION, calls_of, not_wanes, strange_things, wrong_place
from wanehold import sums
from wanehold.keeping import keep
from wanehold.errors import TooMany
from wanehold.store import Store
from wanehold.sums import day_need, lost_within
from wanehold.wanes import Wane


def taking(takes, cap=BILLION, lift=1):
    """A wane with these takes, over and over."""
    return Wane([], [(1, take) for take in takes], cap=cap, lift=lift, anew=False)


def slow_need(parts):
    """What the 24 steps of a day take, divided by the lifts."""
    return sum(Fraction(sum(slow_step(wane, turn)[1] for turn in range(24)), wane.lift()) for wane, _ in parts)


def some_parts(chance):
    parts = []
    for _ in range(chance.randint(1, 8)):
        cap = chance.choice([1, 5, 100, BILLION])
        takes = [chance.choice([0, 0, 1, 2, cap]) for _ in range(chance.choice(TAILS))]
        wane = taking(takes, cap, chance.choice([1, 2, 3, 7, 30, BILLION]))
        parts.append((wane, chance.choice([1, cap, chance.randint(1, cap)])))
    return parts


class DayNeed(unittest.TestCase):
    def test_by_hand(self):
        for takes, lift, need in (
            ([1], 1, (24, 1)), ([1], 7, (24, 7)), ([1], 24, (1, 1)), ([1], 48, (1, 2)), ([0, 1], 5, (12, 5)),
            ([0, 0, 0, 1], 4, (3, 2)), ([2] * 23 + [1], 1, (47, 1)), ([0], 3, (0, 1)), ([0] * 24, 9, (0, 1)),
            ([BILLION], 1, (24 * BILLION, 1)), ([1] + [0] * 23, BILLION, (1, BILLION)),
        ):
            self.assertEqual(day_need([(taking(takes, lift=lift), 5)]), need)

    def test_several(self):
        thirds, halves = taking([1] + [0] * 23, lift=3), taking([1] + [0] * 23, lift=2)
        self.assertEqual(day_need([(thirds, 1), (halves, 1)]), (5, 6))
        self.assertEqual(day_need([(thirds, 1)] * 3), (1, 1))
        self.assertEqual(day_need([(halves, 1)] * 8), (4, 1))
        self.assertEqual(day_need([(taking([0]), 1), (halves, 1)]), (1, 2))

    def test_each_tail(self):
        for many in TAILS:
            takes = list(range(1, many + 1))
            self.assertEqual(day_need([(taking(takes), 1)]), (24 // many * sum(takes), 1))

    def test_strengths_make_no_difference(self):
        wane = taking([1, 2], cap=50, lift=7)
        self.assertEqual({day_need([(wane, strength)]) for strength in (1, 2, 49, 50)}, {(36, 7)})

    def test_held_against_fractions(self):
        chance = random.Random(71)
        for _ in range(300):
            parts = some_parts(chance)
            need = slow_need(parts)
            told = day_need(parts)
            self.assertEqual(told, (need.numerator, need.denominator))
            self.assertTrue(type(told) is tuple and all(type(number) is int for number in told))
            self.assertEqual(day_need(parts), told)


class LostWithin(unittest.TestCase):
    def test_none_up_to_just_24(self):
        self.assertIsNone(lost_within([(taking([1]), 1)]))
        self.assertIsNone(lost_within([(taking([1]), BILLION)]))
        self.assertIsNone(lost_within([(taking([0]), 1)]))
        self.assertIsNone(lost_within([(taking([1] * 23 + [0]), 1)]))
        self.assertIsNone(lost_within([(taking([1], lift=2), 1), (taking([1], lift=2), 1)]))
        self.assertIsNone(lost_within([(taking([1], lift=3), 1)] * 3))

    def test_just_above(self):
        # A need of 25: one a day is short.
        wane = taking([1] * 23 + [2])
        self.assertEqual([lost_within([(wane, strength)]) for strength in (1, 2, 9)], [2, 3, 10])
        self.assertEqual(lost_within([(wane, BILLION)]), BILLION + 1)
        # A need of 24 and a billionth.
        parts = [(taking([1]), 1), (taking([1] + [0] * 23, lift=BILLION), BILLION)]
        self.assertEqual(day_need(parts), (24 * BILLION + 1, BILLION))
        self.assertEqual(lost_within(parts), 2 * BILLION + 1)

    def test_the_least_number_of_days(self):
        # Strengths of 3 by lifts of 1, and a need of 26, so 2 are short a day: 4 days would be needed for 6.
        wane = taking([1] * 22 + [2] * 2)
        self.assertEqual([lost_within([(wane, strength)]) for strength in (1, 2, 3, 4, 5, 6)], [1, 2, 2, 3, 3, 4])

    def test_great_needs(self):
        self.assertEqual(lost_within([(taking([BILLION]), BILLION)]), 1)
        self.assertEqual(lost_within([(taking([2]), 24)]), 2)
        self.assertEqual(lost_within([(taking([2]), 23)]), 1)

    def test_held_against_counting(self):
        chance = random.Random(72)
        told = {"none": 0, "days": 0}
        for _ in range(2000):
            parts = some_parts(chance)
            need = slow_need(parts)
            days = lost_within(parts)
            self.assertEqual(lost_within(parts), days)
            if need <= 24:
                self.assertIsNone(days)
                told["none"] += 1
                continue
            told["days"] += 1
            there = sum(Fraction(strength, wane.lift()) for wane, strength in parts)
            self.assertIs(type(days), int)
            self.assertLess(there + 24 * days, days * need)
            self.assertGreaterEqual(there + 24 * (days - 1), (days - 1) * need)
        self.assertGreater(min(told.values()), 100)

    def test_games_are_lost_within_so_many_days(self):
        chance = random.Random(73)
        looked = 0
        while looked < 30:
            wanes = [taking([chance.choice([1, 2, 3])], chance.randint(1, 9), chance.randint(1, 3)) for _ in range(2)]
            parts = [(wane, chance.randint(1, wane.cap())) for wane in wanes]
            days = lost_within(parts)
            store = Store([100])
            for name, (wane, strength) in zip("ab", parts):
                store.put(name, 0, wane, strength)
            try:
                told = keep(store, ["a", "b"], most=400)
            except TooMany:
                continue
            if days is None:
                continue
            looked += 1
            self.assertEqual(told[0], "lost")
            number = [row[2] for row in told[1] if row[0] == store.state()][0]
            self.assertLessEqual(number, 24 * days)

    def test_whatever_is_asked_one_is_gone(self):
        chance = random.Random(74)
        parts = [(taking([1], 40, 2), 40), (taking([0, 1], 40, 1), 33), (taking([2] * 6, 40, 7), 40)]
        days = lost_within(parts)
        for _ in range(20):
            slow = SlowStore([1000])
            for name, (wane, strength) in zip("abc", parts):
                slow.put(name, 0, wane, strength)
            for _ in range(24 * days):
                slow.plans = {1: (min(slow.things, key=lambda name: (slow.things[name][2], chance.random())), range(24))}
                slow.turn()
                if len(slow.things) < 3:
                    break
            self.assertLess(len(slow.things), 3)


class Refused(unittest.TestCase):
    def test_wrong(self):
        good = taking([1], cap=9, lift=2)
        steps = [(1, 1)]
        wrong_wanes = [
            Wane([], steps, cap=9, lift=2, anew=True), Wane([(1, 0)], steps, cap=9, lift=2, anew=False),
            Wane([], [(2, 0)], cap=9, lift=2, anew=False), Wane([], [(1, 0), (9, 1)], cap=9, lift=2, anew=False),
            Wane([], steps, cap=9, lift=0, anew=False), *not_wanes(),
        ]
        wrong_parts = [
            *[(wane, 1) for wane in wrong_wanes], [good, 1], (good,), (good, 1, 1), (1, good), good, (), None, 0, "",
            *[(good, strength) for strength in (0, -1, 10, BILLION + 1, "1", [1], (1,), *strange_things())],
        ]
        wrong = [
            [], [(good, 1)] * 9, ((good, 1),), (), (good, 1), good, 0, "", {1: (good, 1)}, *strange_things(),
            *[[part] for part in wrong_parts], *[[(good, 1), part] for part in wrong_parts],
        ]
        for call in (day_need, lost_within):
            for parts in wrong:
                self.assertEqual(wrong_place(self, call, parts), 0)
            for parts in ([(good, 1)], [(good, 9)] * 8):
                call(parts)

    def test_what_is_handed_in_stays(self):
        parts = [(taking([2]), 5)]
        before = list(parts)
        day_need(parts)
        lost_within(parts)
        self.assertEqual(parts, before)

    def test_few_steps(self):
        parts = [(taking([BILLION - at] * 24, lift=BILLION - 7 * at), BILLION) for at in range(8)]
        for call in (day_need, lost_within):
            self.assertLess(calls_of(call, parts)[1], 3000)

    def test_defined_in_their_file(self):
        for call in (day_need, lost_within):
            self.assertEqual(call.__module__, sums.__name__)
        self.assertEqual(sums.__name__, "wanehold.sums")


if __name__ == "__main__":
    unittest.main()
