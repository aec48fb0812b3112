import random
import unittest

from slow_store import slow_step
from things import BILLION, FAR, all_whole, calls_of, not_moments, not_wanes, strange_things, wrong_place
from wanehold import effects
from wanehold.effects import effect_of, joined, passed
from wanehold.single import along, since_behind
from wanehold.wanes import Wane

NO_EFFECTS = (
    0, 1, "", "a", [], [1, 0, 1, 1], (), (1,), (1, 0, 1), (1, 0, 1, 1, 1), (1, 0, 1, 1, None), [(1, 0, 1, 1)],
    (0, 0, 1, 1), (1, 0, 0, 1), (1, 0, 1, 0), (-1, 0, 1, 1), (1, 0, -1, 1), (1, 0, 1, -1),
    (True, 0, 1, 1), (1, False, 1, 1), (1, True, 1, 1), (1, 0, True, 1), (1, 0, 1, True),
    (None, 0, 1, 1), (1, None, 1, 1), (1, 0, "1", 1), (1, 0, 1, [1]), ((1,), 0, 1, 1),
    (10 ** 400, 0, 1, 1), (1, 10 ** 400, 1, 1), (1, -(10 ** 400), 1, 1), (1, 0, 10 ** 400, 1), (1, 0, 1, 10 ** 400),
    (1, 0, 1, 10 ** 5000), (1, -(10 ** 5000), 1, 1),
)


def sample(anew=True):
    """A head of two steps, a tail of three; cap 100, lift 30."""
    return Wane([(1, 1), (2, 0)], [(1, 3), (3, 2), (2, 1)], cap=100, lift=30, anew=anew)


def some_wanes():
    """Wanes with and without head, anew and on, that take little and much."""
    wanes = [sample(), sample(anew=False)]
    for anew in (True, False):
        wanes += [
            Wane([], [(1, 0)], cap=BILLION, lift=BILLION, anew=anew),
            Wane([], [(1, 1)], cap=BILLION, lift=2, anew=anew),
            Wane([], [(1, 0), (2, 3)], cap=1, lift=0, anew=anew),
            Wane([(9, 3)] * 24, [(1, k % 3) for k in range(24)], cap=BILLION, lift=1000, anew=anew),
            Wane([(1, 0)], [(1, 1)] * 7 + [(2, 2)], cap=60, lift=11, anew=anew),
            Wane([], [(9, 0), (1, 0)], cap=BILLION, lift=10 ** 6, anew=anew),
            Wane([(1, 0), (1, 5)], [(3, 1), (1, 0), (1, 0)], cap=5000, lift=700, anew=anew),
        ]
    return wanes


def some_rows():
    chance = random.Random(15)
    rows = ["", ".", "a", "..", ".a", "a.", "aa", "." * 60, "." * 200, "a" * 200]
    rows += [".....a" * 20, ".a" * 100, ".a.aa" * 40]
    for many in (3, 7, 20, 50, 120, 199, 200):
        rows += ["".join(chance.choice(signs) for _ in range(many)) for signs in (".a", "...a", ".......a", ".aaa")]
    return rows


def slow_joined(one, other):
    """What 16 tells of two, either perhaps None."""
    if one is None or other is None:
        return None
    least, add, by, top = one
    l, a, b, t = other
    if top < l:
        return None
    return (max(least, l * by - add), add + a * by, by * b, min(t, (top + a) // b))


def slow_effect(wane, row, since):
    """What 15 and 16 tell, sign by sign."""
    effect = (1, 0, 1, wane.cap())
    for at, sign in enumerate(row):
        if sign == "a":
            one = (1, wane.lift(), 1, wane.cap())
        else:
            by, take = slow_step(wane, since_behind(wane, row[:at], since=since))
            one = (by * (take + 1), -(by * take), by, wane.cap() // by - take)
            if one[3] < 1:
                one = None
        effect = slow_joined(effect, one)
    return effect


class EffectOf(unittest.TestCase):
    def test_no_signs(self):
        for wane in some_wanes():
            for since in (0, 1, 23, 24, 25, FAR):
                self.assertEqual(effect_of(wane, "", since=since), (1, 0, 1, wane.cap()))

    def test_one_asking(self):
        for wane in some_wanes():
            for since in (0, 1, FAR):
                self.assertEqual(effect_of(wane, "a", since=since), (1, wane.lift(), 1, wane.cap()))

    def test_one_turn_by_hand(self):
        told = [effect_of(sample(), ".", since=since) for since in range(7)]
        self.assertEqual(told, [
            (2, -1, 1, 99), (2, 0, 2, 50), (4, -3, 1, 97), (9, -6, 3, 31), (4, -2, 2, 49), (4, -3, 1, 97),
            (9, -6, 3, 31),
        ])
        # 10 ** 30 - 2 is 2 by 3: the last step of the tail.
        self.assertEqual(effect_of(sample(), ".", since=FAR), (4, -2, 2, 49))

    def test_one_turn_that_even_the_cap_does_not_outlast(self):
        for by, take, cap, effect in (
            (1, 9, 10, (10, -9, 1, 1)), (1, 10, 10, None), (1, 11, 10, None), (2, 4, 11, (10, -8, 2, 1)),
            (2, 5, 11, None), (9, 0, 9, (9, 0, 9, 1)), (9, 0, 8, None), (1, BILLION, BILLION, None),
            (1, BILLION - 1, BILLION, (BILLION, 1 - BILLION, 1, 1)),
            (9, BILLION, BILLION, None), (1, 0, 1, (1, 0, 1, 1)), (1, 1, 1, None), (2, 0, 1, None),
        ):
            self.assertEqual(effect_of(Wane([], [(by, take)], cap=cap, lift=3), "."), effect)

    def test_rows_by_hand(self):
        wane = sample()
        self.assertEqual(effect_of(wane, ".."), (3, -1, 2, 49))
        self.assertEqual(effect_of(wane, ".a"), (2, 29, 1, 100))
        self.assertEqual(effect_of(wane, "a."), (1, 29, 1, 99))
        self.assertEqual(effect_of(wane, "aa"), (1, 60, 1, 100))
        # The asking begins the steps anew, so the second turn is like the first one.
        self.assertEqual(effect_of(wane, ".a."), (2, 28, 1, 99))
        self.assertEqual(effect_of(sample(anew=False), ".a."), (2, 29, 2, 50))

    def test_as_the_document_says(self):
        for wane in some_wanes():
            for row in some_rows():
                for since in (0, 1, 30, FAR):
                    self.assertEqual(effect_of(wane, row, since=since), slow_effect(wane, row, since))

    def test_tells_what_along_tells(self):
        found = {True: 0, False: 0}
        for wane in some_wanes():
            for row in some_rows():
                for since in (0, 1, 4, 23, 24, 25, 100, 10 ** 15, FAR - 1, FAR):
                    effect = effect_of(wane, row, since=since)
                    found[effect is None] += 1
                    strengths = {0, 1, wane.cap() // 2, wane.cap()}
                    if effect is not None:
                        self.assertLessEqual(effect[0], wane.cap())
                        self.assertEqual(effect[3], along(wane, wane.cap(), row, since=since)[-1][0])
                        strengths |= {effect[0] - 1, effect[0], min(effect[0] + 1, wane.cap())}
                        self.assertGreaterEqual(passed(effect, effect[0]), 1)
                        self.assertEqual(passed(effect, effect[0] - 1), 0)
                    for strength in strengths:
                        told = along(wane, strength, row, since=since)[-1][0]
                        self.assertEqual(passed(effect, strength), told)
        self.assertGreater(min(found.values()), 100)

    def test_none_just_where_the_cap_goes(self):
        wane = Wane([], [(1, 1)], cap=50, lift=10)
        self.assertEqual(effect_of(wane, "." * 49), (50, -49, 1, 1))
        for row in ("." * 50, "." * 51, "." * 200, "." * 50 + "a", "a" + "." * 50, "." * 50 + "a" * 150):
            self.assertIsNone(effect_of(wane, row))
        # An asking in time keeps the cap there.
        self.assertEqual(effect_of(wane, "." * 49 + "a."), (50, -40, 1, 10))

    def test_who_has_more_has_no_less(self):
        for wane in (sample(), sample(anew=False)):
            for row in ("", "..", ".a.", "..a...a", "...aa."):
                behind = [passed(effect_of(wane, row), strength) for strength in range(101)]
                self.assertEqual(behind, sorted(behind))

    def test_one_map_of_its_parts(self):
        for wane in some_wanes():
            for row in some_rows()[::3]:
                for since in (0, 2, 40, FAR - 300):
                    whole = effect_of(wane, row, since=since)
                    for cut in range(0, len(row) + 1, 1 + len(row) // 9):
                        one = effect_of(wane, row[:cut], since=since)
                        other = effect_of(wane, row[cut:], since=since_behind(wane, row[:cut], since=since))
                        told = None if one is None or other is None else joined(one, other)
                        self.assertEqual(told, whole)

    def test_two_hundred_signs_that_divide(self):
        wane = Wane([], [(9, 0)], cap=BILLION, lift=BILLION)
        effect = effect_of(wane, ".a" * 100)
        self.assertEqual(effect[2], 9 ** 100)
        self.assertEqual([passed(effect, x) for x in (0, 1, 8, 9, BILLION)], [0, 0, 0, BILLION, BILLION])
        effect = effect_of(wane, "a." * 100)
        self.assertEqual([passed(effect, x) for x in (0, 1, BILLION)], [0, BILLION // 9, BILLION // 9])

    def test_told_by_tuples_of_whole_numbers(self):
        for row in some_rows():
            told = effect_of(sample(), row)
            if told is not None:
                self.assertIs(type(told), tuple)
                self.assertEqual(len(told), 4)
                self.assertTrue(all_whole(told))

    def test_since_left_out(self):
        self.assertEqual(effect_of(sample(), ".."), effect_of(sample(), "..", since=0))
        self.assertNotEqual(effect_of(sample(), ".."), effect_of(sample(), "..", since=1))
        with self.assertRaises(TypeError):
            effect_of(sample(), "..", 0)

    def test_far_off_in_few_steps(self):
        for wane in some_wanes():
            self.assertLess(calls_of(effect_of, wane, ".a" * 100, since=FAR)[1], 10000)

    def test_wrong(self):
        wane = sample()
        for thing in not_wanes():
            self.assertEqual(wrong_place(self, effect_of, thing, "", since=0), 0)
            self.assertEqual(wrong_place(self, effect_of, thing, None, since=-1), 0)
        for row in ("b", "." * 201, "A", " ", ". ", 0, [], ["."], (), b".", *strange_things()):
            self.assertEqual(wrong_place(self, effect_of, wane, row), 1)
            self.assertEqual(wrong_place(self, effect_of, wane, row, since=-1), 1)
        for since in not_moments():
            self.assertEqual(wrong_place(self, effect_of, wane, "", since=since), 2)
            self.assertEqual(wrong_place(self, effect_of, wane, "." * 200, since=since), 2)


class Joined(unittest.TestCase):
    def test_by_hand(self):
        self.assertEqual(joined((2, -1, 1, 99), (2, 0, 2, 50)), (3, -1, 2, 49))
        self.assertEqual(joined((1, 30, 1, 100), (9, -6, 3, 31)), (1, 24, 3, 31))
        self.assertEqual(joined((9, -6, 3, 31), (1, 30, 1, 100)), (9, 84, 3, 61))

    def test_tuples_that_no_row_has(self):
        self.assertEqual(joined((1, 0, 1, 5), (1, -10, 1, 9)), (1, -10, 1, -5))
        self.assertEqual(joined((1, 0, 1, 5), (1, -5, 1, 9)), (1, -5, 1, 0))
        self.assertEqual(joined((1, 0, 1, 5), (1, -4, 1, 9)), (1, -4, 1, 1))
        self.assertEqual(joined((7, 50, 3, 5), (4, -9, 2, 9)), (7, 23, 6, -2))
        self.assertEqual(joined((1, -50, 3, 5), (4, 9, 2, 1)), (62, -23, 6, 1))
        self.assertEqual(joined((5, 0, 1, 2), (1, 0, 1, 3)), (5, 0, 1, 2))
        self.assertEqual(joined((5, 3, 2, 2), (2, 1, 7, 3)), (5, 5, 14, 0))

    def test_none_where_top_is_less_than_the_next_least(self):
        self.assertIsNone(joined((1, 0, 1, 5), (6, 0, 1, 9)))
        self.assertEqual(joined((1, 0, 1, 5), (5, 0, 1, 9)), (5, 0, 1, 5))
        self.assertIsNone(joined((1, 0, 1, 5), (10 ** 400 - 1, 0, 1, 9)))
        self.assertIsNone(joined((9, 0, 1, 1), (2, 100, 1, 100)))

    def test_as_the_document_says(self):
        chance = random.Random(16)
        for bound in (3, 20, 1000, 10 ** 12, 10 ** 400 - 1):
            for _ in range(400):
                one, other = [
                    tuple(chance.randint(low, bound) for low in (1, -bound, 1, 1)) for _ in range(2)
                ]
                told = joined(one, other)
                self.assertEqual(told, slow_joined(one, other))
                if told is not None:
                    self.assertTrue(all_whole(told))

    def test_figures(self):
        most = 10 ** 400 - 1
        great = (most, most, most, most)
        self.assertEqual(joined(great, great), (most * most - most, most + most * most, most * most, 2))
        least = (1, -most, 1, 1)
        self.assertEqual(joined(least, least), (1 + most, -most - most, 1, 1 - most))
        self.assertEqual(passed(great, 5), 0)

    def test_three_joined_either_way(self):
        wane = sample()
        parts = [effect_of(wane, row, since=since) for row, since in (("a..", 0), (".a", 2), ("...", 0))]
        self.assertEqual(joined(joined(parts[0], parts[1]), parts[2]), joined(parts[0], joined(parts[1], parts[2])))

    def test_wrong(self):
        good = (1, 0, 1, 1)
        for thing in (*NO_EFFECTS, *strange_things()):
            self.assertEqual(wrong_place(self, joined, thing, good), 0)
            self.assertEqual(wrong_place(self, joined, thing, thing), 0)
            self.assertEqual(wrong_place(self, joined, good, thing), 1)
        self.assertEqual(joined(good, good), good)


class Passed(unittest.TestCase):
    def test_by_hand(self):
        effect = (9, -6, 3, 31)
        told = [passed(effect, strength) for strength in (0, 1, 8, 9, 11, 12, 98, 99, 100, 101, BILLION)]
        self.assertEqual(told, [0, 0, 0, 1, 1, 2, 30, 31, 31, 31, 31])

    def test_through_none(self):
        for strength in (0, 1, 100, BILLION):
            self.assertEqual(passed(None, strength), 0)

    def test_numbers_that_no_row_has(self):
        self.assertEqual([passed((1, -10, 1, 9), x) for x in (0, 1, 3, 10, 11, 30)], [0, -9, -7, 0, 1, 9])
        self.assertEqual([passed((4, -10, 3, 9), x) for x in (3, 4, 5, 7, 8)], [0, -2, -2, -1, -1])
        self.assertEqual(passed((1, 10 ** 399, 1, 10 ** 400 - 1), 7), 10 ** 399 + 7)
        self.assertEqual(passed((BILLION + 1, 5, 1, 5), BILLION), 0)

    def test_figures(self):
        most = 10 ** 400 - 1
        self.assertEqual(passed((1, most, most, most), BILLION), 1)
        self.assertEqual(passed((1, most, 1, most), 0), 0)
        self.assertEqual(passed((1, most, 1, most), 1), most)
        self.assertEqual(passed((1, -most, 1, 1), 1), 1 - most)

    def test_wrong(self):
        for thing in (*NO_EFFECTS, *strange_things()[1:]):
            self.assertEqual(wrong_place(self, passed, thing, 0), 0)
            self.assertEqual(wrong_place(self, passed, thing, -1), 0)
        for strength in (-1, BILLION + 1, FAR, -FAR, 10 ** 5000, "1", [], (1,), *strange_things()):
            self.assertEqual(wrong_place(self, passed, (1, 0, 1, 1), strength), 1)
            self.assertEqual(wrong_place(self, passed, None, strength), 1)


class Interface(unittest.TestCase):
    def test_each_is_defined_in_its_file(self):
        for word in ("effect_of", "joined", "passed"):
            self.assertEqual(getattr(effects, word).__module__, "wanehold.effects")

    def test_the_same_is_told_again(self):
        wane = sample()
        text = wane.text()
        for _ in range(3):
            self.assertEqual(effect_of(wane, ".."), (3, -1, 2, 49))
            self.assertEqual(joined((1, 0, 1, 5), (1, -10, 1, 9)), (1, -10, 1, -5))
            self.assertEqual(passed((9, -6, 3, 31), 12), 2)
            self.assertEqual(wane.text(), text)


if __name__ == "__main__":
    unittest.main()
