import random
import unittest
from math import gcd

from slow_store import slow_phase
from things import BILLION, FAR, all_whole, calls_of, not_moments, not_wanes, strange_things, wrong_place
from wanehold import rounds
from wanehold.rounds import behind, fate, stays_from
from wanehold.single import along
from wanehold.wanes import Wane

NO_ROUNDS = ("", "b", "." * 49, "a" * 49, "." * 200, "A", " ", ". ", 0, [], ["."], (), b".", *strange_things())
TAILS = (1, 2, 3, 4, 6, 8, 12, 24)


def sample(anew=True):
    """A head of two steps, a tail of three; cap 100, lift 30."""
    return Wane([(1, 1), (2, 0)], [(1, 3), (3, 2), (2, 1)], cap=100, lift=30, anew=anew)


def some_wane(chance):
    """A wane that takes little or much."""
    cap = chance.choice([1, 3, 10, 50, 100, 1000, BILLION])
    takes = chance.choice([[0, 0, 1], [0, 0, 0, 0, 0, 0, 1], [0, 1, 2, 5, cap // 7]])
    bys = chance.choice([[1], [1, 1, 1, 1, 1, 1, 2], [1, 2, 3, 9]])
    steps = [(chance.choice(bys), chance.choice(takes)) for _ in range(48)]
    lead = chance.choice([0, 0, 1, 3, 24])
    lift = chance.choice([0, 1, 2, 5, cap // 3, cap])
    return Wane(steps[:lead], steps[24:24 + chance.choice(TAILS)], cap=cap, lift=lift, anew=chance.random() < 0.5)


def some_round(chance):
    signs = chance.choice([".", "a", ".a", "....a"])
    return "".join(chance.choice(signs) for _ in range(chance.choice([1, 2, 3, 5, 20, 48])))


def walked(wane, strength, row, since):
    """Go through a round sign by sign, by a since of any size."""
    # Whole tails less leave the steps as they are, and the since within what may be handed in.
    less = max(0, since - FAR + 48) // 24 * 24 + 24 if since > FAR - 48 else 0
    states = along(wane, strength, row, since=since - less)
    if wane.is_anew() and "a" in row:
        return states, states[-1]
    return states, (states[-1][0], states[-1][1] + less)


def slow_fate(wane, strength, row, since):
    """The fate as 18 tells it, by walking; None where it takes too long."""
    seen = {}
    strengths = []
    for times in range(3000):
        state = (strength, slow_phase(wane, since))
        if state in seen:
            return ("stays", seen[state], strengths[seen[state]:])
        seen[state] = times
        strengths.append(strength)
        states, (strength, since) = walked(wane, strength, row, since)
        for at, (left, _) in enumerate(states[1:]):
            if left == 0:
                return ("goes", times, at)
    return None


def many_strengths(wane, row):
    """How many strengths 18 says come again and again."""
    turns = row.count(".")
    if turns == 0 or "a" in row and wane.is_anew():
        return 1
    return len(wane.tail()) // gcd(len(wane.tail()), turns)


class Behind(unittest.TestCase):
    def test_by_hand(self):
        told = [behind(sample(), 100, "..a", times) for times in range(4)]
        self.assertEqual(told, [(100, 0), (79, 0), (69, 0), (64, 0)])
        told = [behind(sample(anew=False), 100, "..a", times) for times in range(4)]
        self.assertEqual(told, [(100, 0), (79, 2), (53, 4), (52, 6)])

    def test_none_is_as_at_first(self):
        for row in (".", "a", ".a" * 24):
            for strength in (0, 1, 100):
                for since in (0, 5, FAR):
                    self.assertEqual(behind(sample(), strength, row, 0, since=since), (strength, since))

    def test_held_against_walking(self):
        chance = random.Random(17)
        for _ in range(250):
            wane, row = some_wane(chance), some_round(chance)
            strength = chance.choice([0, 1, wane.cap(), chance.randint(1, wane.cap())])
            first = since = chance.choice([0, 1, 7, 24, 1000, FAR - 30, FAR])
            begun = strength
            for times in range(chance.choice([3, 30])):
                self.assertEqual(behind(wane, begun, row, times, since=first), (strength, since))
                strength, since = walked(wane, strength, row, since)[1]

    def test_parts_are_the_whole(self):
        chance = random.Random(18)
        for _ in range(150):
            wane, row = some_wane(chance), some_round(chance)
            strength = chance.randint(0, wane.cap())
            for whole in (40, 10 ** 6, 10 ** 12, 10 ** 28):
                cut = chance.randint(0, whole)
                middle, since = behind(wane, strength, row, cut, since=3)
                told = behind(wane, middle, row, whole - cut, since=since)
                self.assertEqual(told, behind(wane, strength, row, whole, since=3))

    def test_far_off(self):
        wane = Wane([], [(1, 1)], cap=BILLION, lift=3, anew=False)
        self.assertEqual(behind(wane, BILLION, "..a", FAR), (BILLION, 2 * FAR))
        self.assertEqual(behind(wane, 7, "..a", 10 ** 8), (7 + 10 ** 8, 2 * 10 ** 8))
        # Behind the cap a round takes it to two less, and lifts it again.
        self.assertEqual(behind(wane, BILLION, "a..", FAR, since=FAR), (BILLION - 2, 3 * FAR))
        self.assertEqual(behind(wane, BILLION, ".....a", 10 ** 8), (BILLION - 2 * 10 ** 8, 5 * 10 ** 8))
        self.assertEqual(behind(wane, BILLION, ".....a", 5 * 10 ** 8 - 3), (6, 25 * 10 ** 8 - 15))
        self.assertEqual(behind(wane, BILLION, ".....a", 5 * 10 ** 8), (0, 25 * 10 ** 8))
        self.assertEqual(behind(wane, BILLION, ".....a", FAR, since=FAR), (0, 6 * FAR))

    def test_far_off_anew(self):
        wane = Wane([(1, 0)], [(1, 1)], cap=BILLION, lift=3)
        self.assertEqual(behind(wane, BILLION, "...a..", 10 ** 8, since=FAR), (BILLION - 10 ** 8, 2))
        self.assertEqual(behind(wane, BILLION, "...a..", FAR, since=FAR), (0, 2))
        self.assertEqual(behind(wane, BILLION, "..a..", FAR, since=FAR), (BILLION - 1, 2))
        self.assertEqual(behind(wane, 9, "aa", FAR, since=5), (BILLION, 0))
        self.assertEqual(behind(wane, 9, "a.", 10 ** 8, since=5), (9 + 3 * 10 ** 8, 1))
        self.assertEqual(behind(wane, 9, "a.", 10 ** 9, since=5), (BILLION, 1))

    def test_halves(self):
        wane = Wane([], [(2, 0)], cap=BILLION, lift=100)
        self.assertEqual(behind(wane, BILLION, ".a", FAR), (200, 0))
        self.assertEqual(behind(wane, 2, ".a", FAR), (199, 0))
        self.assertEqual(behind(wane, 1, ".a", FAR), (0, 0))
        self.assertEqual(behind(wane, 1, "a.", FAR), (99, 1))

    def test_gone_stays_gone(self):
        for row in (".", "a", "..a"):
            for times in (0, 1, 5, FAR):
                self.assertEqual(behind(sample(), 0, row, times)[0], 0)

    def test_lengths_of_rounds(self):
        wane = Wane([], [(1, 1)], cap=BILLION, lift=1, anew=False)
        self.assertEqual(behind(wane, 100, ".", 7), (93, 7))
        self.assertEqual(behind(wane, 100, "." * 48, 2), (4, 96))
        self.assertEqual(behind(wane, 100, "a" * 48, 10 ** 6), (100 + 48 * 10 ** 6, 0))

    def test_told_by_tuples_of_whole_numbers(self):
        for times in (0, 1, FAR):
            told = behind(sample(), 5, "..a", times)
            self.assertIs(type(told), tuple)
            self.assertTrue(len(told) == 2 and all_whole(told))

    def test_wrong(self):
        wane = sample()
        for thing in not_wanes():
            self.assertEqual(wrong_place(self, behind, thing, 1, ".", 1, since=0), 0)
            self.assertEqual(wrong_place(self, behind, thing, -1, "", -1, since=-1), 0)
        for strength in (-1, 101, BILLION, FAR, "1", [], (1,), *strange_things()):
            self.assertEqual(wrong_place(self, behind, wane, strength, ".", 1), 1)
            self.assertEqual(wrong_place(self, behind, wane, strength, "", 1), 1)
        for row in NO_ROUNDS:
            self.assertEqual(wrong_place(self, behind, wane, 1, row, 1), 2)
            self.assertEqual(wrong_place(self, behind, wane, 0, row, -1, since=-1), 2)
        for thing in not_moments():
            self.assertEqual(wrong_place(self, behind, wane, 1, ".", thing), 3)
            self.assertEqual(wrong_place(self, behind, wane, 1, ".", thing, since=-1), 3)
            self.assertEqual(wrong_place(self, behind, wane, 1, ".", 0, since=thing), 4)


class Fate(unittest.TestCase):
    def test_goes_by_hand(self):
        wane = Wane([], [(1, 1)], cap=100, lift=3)
        for strength, row, told in (
            (1, ".", ("goes", 0, 0)), (2, ".", ("goes", 1, 0)), (100, ".", ("goes", 99, 0)),
            (1, "a.", ("stays", 49, [99])), (1, ".a", ("goes", 0, 0)), (3, "...a", ("goes", 0, 2)), (4, "...a", ("stays", 0, [4])),
            (4, "....a", ("goes", 0, 3)), (5, "....a", ("goes", 1, 3)), (100, "....a", ("goes", 96, 3)),
            (1, "a.....", ("goes", 0, 4)), (2, "a.....", ("goes", 0, 5)), (3, "a.....", ("goes", 1, 4)),
            (100, "." * 48, ("goes", 2, 3)),
        ):
            self.assertEqual(fate(wane, strength, row), told)

    def test_goes_in_the_head(self):
        wane = Wane([(1, 0)] * 5 + [(1, 9)], [(1, 0)], cap=100, lift=0)
        self.assertEqual(fate(wane, 9, "."), ("goes", 5, 0))
        self.assertEqual(fate(wane, 10, "."), ("stays", 6, [1]))
        self.assertEqual(fate(wane, 9, ".."), ("goes", 2, 1))
        self.assertEqual(fate(wane, 9, ".....a"), ("stays", 0, [9]))
        self.assertEqual(fate(wane, 9, ".", since=6), ("stays", 0, [9]))
        self.assertEqual(fate(wane, 9, ".", since=5), ("goes", 0, 0))
        # The first round begins late in the head, later ones anew.
        self.assertEqual(fate(wane, 10, ".a", since=5), ("stays", 1, [1]))

    def test_stays_by_hand(self):
        wane = Wane([], [(1, 1), (1, 0)], cap=20, lift=1, anew=False)
        self.assertEqual(fate(wane, 7, "..a"), ("stays", 0, [7]))
        self.assertEqual(fate(wane, 7, ".a"), ("stays", 26, [20, 20]))
        self.assertEqual(fate(wane, 7, "a."), ("stays", 25, [19, 20]))
        self.assertEqual(fate(wane, 7, "a.", since=1), ("stays", 24, [19, 20]))
        self.assertEqual(fate(wane, 19, "a.", since=1), ("stays", 0, [19, 20]))

    def test_without_a_turn(self):
        on = Wane([(1, 0)], [(1, 1), (1, 2)], cap=20, lift=4, anew=False)
        anew = Wane([(1, 0)], [(1, 1), (1, 2)], cap=20, lift=4)
        self.assertEqual(fate(on, 1, "a", since=7), ("stays", 5, [20]))
        self.assertEqual(fate(on, 20, "a", since=7), ("stays", 0, [20]))
        self.assertEqual(fate(anew, 20, "a"), ("stays", 0, [20]))
        self.assertEqual(fate(anew, 20, "a", since=7), ("stays", 1, [20]))
        self.assertEqual(fate(anew, 1, "aa", since=7), ("stays", 3, [20]))
        still = Wane([], [(1, 1), (1, 1)], cap=20, lift=0)
        self.assertEqual(fate(still, 9, "aaa"), ("stays", 0, [9]))
        self.assertEqual(fate(still, 9, "aaa", since=4), ("stays", 0, [9]))
        self.assertEqual(fate(still, 9, "aaa", since=5), ("stays", 1, [9]))

    def test_how_many_strengths(self):
        found = set()
        rows = ["a", "aa", ".", "a.", ".a", "..a", "...a", "....a..a", "." * 23 + "a", "." * 24 + "a", "." * 47 + "a"]
        for many in TAILS:
            for lead in (0, 2, 24):
                for anew in (True, False):
                    wane = Wane([(1, 0)] * lead, [(1, 0)] * (many - 1) + [(1, 1)], cap=10 ** 6, lift=48, anew=anew)
                    for row in rows:
                        for since in (0, 3, FAR):
                            told = fate(wane, 10 ** 5, row, since=since)
                            if told[0] == "stays":
                                self.assertEqual(len(told[2]), many_strengths(wane, row))
                                self.assertIs(type(told[2]), list)
                                found.add(len(told[2]))
                            else:
                                self.assertEqual(row, ".")
        self.assertEqual(sorted(found), [1, 2, 3, 4, 6, 8, 12, 24])

    def test_held_against_walking(self):
        chance = random.Random(19)
        found = {"goes": 0, "stays": 0, None: 0}
        for _ in range(1200):
            wane, row = some_wane(chance), some_round(chance)
            strength = chance.choice([1, wane.cap(), chance.randint(1, wane.cap()), min(wane.cap(), 50)])
            since = chance.choice([0, 1, 5, 30, FAR - 1, FAR])
            told, slow = fate(wane, strength, row, since=since), slow_fate(wane, strength, row, since)
            if slow is None:
                self.look_at_far_fate(wane, strength, row, since, told)
            else:
                self.assertEqual(told, slow)
            found[slow and slow[0]] += 1
        self.assertGreater(min(found.values()), 20)

    def look_at_far_fate(self, wane, strength, row, since, told):
        """Look at a fate that comes late, by what behind tells."""
        word, times, last = told
        if word == "goes":
            left, behind_it = behind(wane, strength, row, times, since=since)
            self.assertGreater(left, 0)
            states, _ = walked(wane, left, row, behind_it)
            self.assertEqual([state[0] > 0 for state in states[1:last + 2]], [True] * last + [False])
            return
        many = len(last)
        self.assertEqual(many, many_strengths(wane, row))
        for place in range(2 * many):
            self.assertEqual(behind(wane, strength, row, times + place, since=since)[0], last[place % many])
        before, other = [behind(wane, strength, row, times - 1 + more, since=since) for more in (0, many)]
        self.assertNotEqual((before[0], slow_phase(wane, before[1])), (other[0], slow_phase(wane, other[1])))

    def test_far_off(self):
        wane = Wane([], [(1, 1)], cap=BILLION, lift=3, anew=False)
        self.assertEqual(fate(wane, BILLION, "....a", since=FAR), ("goes", BILLION - 4, 3))
        self.assertEqual(fate(wane, 1, "a..", since=FAR), ("stays", BILLION - 3, [BILLION - 2]))
        wane = Wane([], [(1, 1)] + [(1, 0)] * 23, cap=BILLION, lift=0)
        self.assertEqual(fate(wane, BILLION, "."), ("goes", 24 * (BILLION - 1), 0))
        self.assertEqual(fate(wane, BILLION, ".", since=1), ("goes", 24 * BILLION - 1, 0))
        wane = Wane([], [(1, 0)] * 23 + [(1, 1)], cap=BILLION, lift=1, anew=False)
        # One more in each 24 rounds, two behind the first one.
        self.assertEqual(fate(wane, 1, "." * 23 + "a"), ("stays", 24 * (BILLION - 2) + 1, [BILLION] * 24))

    def test_told_lists_are_new_ones(self):
        wane = sample()
        fate(wane, 100, "..a")[2].append(5)
        self.assertEqual(fate(wane, 100, "..a"), ("stays", 6, [59]))
        self.assertIs(type(fate(wane, 100, "..a")), tuple)

    def test_wrong(self):
        wane = sample()
        for thing in not_wanes():
            self.assertEqual(wrong_place(self, fate, thing, 1, ".", since=0), 0)
            self.assertEqual(wrong_place(self, fate, thing, 0, "", since=-1), 0)
        for strength in (0, -1, 101, BILLION, FAR, "1", [], (1,), *strange_things()):
            self.assertEqual(wrong_place(self, fate, wane, strength, "."), 1)
            self.assertEqual(wrong_place(self, fate, wane, strength, "", since=-1), 1)
        for row in NO_ROUNDS:
            self.assertEqual(wrong_place(self, fate, wane, 1, row), 2)
            self.assertEqual(wrong_place(self, fate, wane, 1, row, since=-1), 2)
        for since in not_moments():
            self.assertEqual(wrong_place(self, fate, wane, 1, ".", since=since), 3)


class StaysFrom(unittest.TestCase):
    def test_by_hand(self):
        wane = Wane([], [(1, 1)], cap=100, lift=3)
        for row, told in (
            (".", None), ("a", 1), ("a.", 1), (".a", 2), ("...a", 4), ("..a", 3), ("....a", None), ("." * 48, None),
            ("a...", 1), ("a....", None), ("a" * 48, 1), ("..." * 9 + "a" * 9, 28),
        ):
            self.assertEqual(stays_from(wane, row), told)

    def test_by_the_since(self):
        wane = Wane([(1, 5)], [(1, 0)], cap=100, lift=0, anew=False)
        self.assertEqual([stays_from(wane, ".", since=since) for since in (0, 1, FAR)], [6, 1, 1])
        wane = Wane([], [(1, 7), (1, 0), (1, 0)], cap=100, lift=7, anew=False)
        told = [stays_from(wane, "..a.", since=since) for since in (0, 1, 2, 3, FAR)]
        self.assertEqual(told, [8, 1, 8, 8, 1])

    def test_held_against_fates(self):
        chance = random.Random(20)
        found = {True: 0, False: 0}
        for _ in range(400):
            wane, row = some_wane(chance), some_round(chance)
            since = chance.choice([0, 1, 5, 30, FAR - 1, FAR])
            least = stays_from(wane, row, since=since)
            found[least is None] += 1
            if least is None:
                self.assertEqual(fate(wane, wane.cap(), row, since=since)[0], "goes")
            else:
                for strength in {least, (least + wane.cap()) // 2, wane.cap()}:
                    self.assertEqual(fate(wane, strength, row, since=since)[0], "stays")
                for strength in {1, least // 2, least - 1} - {0}:
                    if strength < least:
                        self.assertEqual(fate(wane, strength, row, since=since)[0], "goes")
        self.assertGreater(min(found.values()), 100)

    def test_wrong(self):
        wane = sample()
        for thing in not_wanes():
            self.assertEqual(wrong_place(self, stays_from, thing, ".", since=0), 0)
            self.assertEqual(wrong_place(self, stays_from, thing, "", since=-1), 0)
        for row in NO_ROUNDS:
            self.assertEqual(wrong_place(self, stays_from, wane, row), 1)
            self.assertEqual(wrong_place(self, stays_from, wane, row, since=-1), 1)
        for since in not_moments():
            self.assertEqual(wrong_place(self, stays_from, wane, ".", since=since), 2)


class Interface(unittest.TestCase):
    def test_each_is_defined_in_its_file(self):
        for word in ("behind", "fate", "stays_from"):
            self.assertEqual(getattr(rounds, word).__module__, "wanehold.rounds")

    def test_since_stands_behind_the_star(self):
        for call, given in ((behind, (1, ".", 1)), (fate, (1, ".")), (stays_from, (".",))):
            with self.assertRaises(TypeError):
                call(sample(), *given, 0)
            self.assertEqual(call(sample(), *given), call(sample(), *given, since=0))

    def test_few_steps_however_far(self):
        chance = random.Random(21)
        for _ in range(200):
            wane, row = some_wane(chance), some_round(chance)
            for call, given in ((behind, (wane.cap(), row, FAR)), (fate, (wane.cap(), row)), (stays_from, (row,))):
                self.assertLess(calls_of(call, wane, *given, since=FAR)[1], 100000)

    def test_the_same_is_told_again(self):
        wane = sample()
        text = wane.text()
        for _ in range(3):
            self.assertEqual(behind(wane, 100, "..a", 2), (69, 0))
            self.assertEqual(fate(wane, 100, "..a"), ("stays", 6, [59]))
            self.assertEqual(stays_from(wane, "..a"), 3)
            self.assertEqual(wane.text(), text)


if __name__ == "__main__":
    unittest.main()
