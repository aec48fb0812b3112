import random
import unittest
from itertools import product

from deeds import some_wane, still
from things import BILLION, FAR, calls_of, not_moments, not_wanes, strange_things, wrong_place
from wanehold import origins
from wanehold.errors import NoNumber, NotOne
from wanehold.origins import Origins
from wanehold.single import along
from wanehold.wanes import Wane


def falling(cap=9, lift=2, anew=True):
    return Wane([], [(1, 1)], cap=cap, lift=lift, anew=anew)


def halving(cap=9, lift=2):
    return Wane([], [(2, 0)], cap=cap, lift=lift)


def is_seen(part, strength):
    """Whether a strength at first is seen so behind the row, sign by sign."""
    wane, row, since, _, _, seen = part
    last = along(wane, strength, row, since=since)[-1][0]
    if seen is None:
        return True
    return last > 0 if seen == "there" else last == seen


def slow_fits(part):
    """The strengths that fit, by trying each."""
    return [strength for strength in range(part[3], part[4] + 1) if is_seen(part, strength)]


def some_row(chance, most=12):
    return "".join(chance.choice("...a") for _ in range(chance.randint(0, most)))


def some_part(chance, caps=(1, 2, 3, 10, 50)):
    wane = some_wane(chance, caps=caps)
    low = chance.randint(1, wane.cap())
    high = chance.randint(low, wane.cap())
    if chance.random() < 0.5:
        low, high = 1, wane.cap()
    row, since = some_row(chance), chance.choice([0, 0, 1, 5, 30, FAR])
    seen = chance.choice([None, "there", 0, wane.cap(), wane.cap() + 1, chance.randint(1, wane.cap()), BILLION])
    if chance.random() < 0.4:
        # One that is seen.
        seen = along(wane, chance.randint(low, high), row, since=since)[-1][0]
    return wane, row, since, low, high, seen


class Spans(unittest.TestCase):
    def test_nothing_is_seen(self):
        self.assertEqual(Origins([(falling(), "....", 0, 2, 7, None)]).spans(), [(2, 7)])
        self.assertEqual(Origins([(falling(), "." * 200, 0, 1, 9, None)]).spans(), [(1, 9)])

    def test_gone(self):
        self.assertEqual(Origins([(falling(), "...", 0, 1, 9, 0)]).spans(), [(1, 3)])
        self.assertEqual(Origins([(falling(), "...", 0, 3, 9, 0)]).spans(), [(3, 3)])
        self.assertEqual(Origins([(falling(), "...", 0, 4, 9, 0)]).spans(), [None])
        self.assertEqual(Origins([(falling(), "." * 9, 0, 1, 9, 0)]).spans(), [(1, 9)])
        self.assertEqual(Origins([(falling(), "", 0, 1, 9, 0)]).spans(), [None])

    def test_there(self):
        self.assertEqual(Origins([(falling(), "...", 0, 1, 9, "there")]).spans(), [(4, 9)])
        self.assertEqual(Origins([(falling(), "...", 0, 5, 6, "there")]).spans(), [(5, 6)])
        self.assertEqual(Origins([(falling(), "...", 0, 1, 3, "there")]).spans(), [None])
        self.assertEqual(Origins([(falling(), "." * 9, 0, 1, 9, "there")]).spans(), [None])
        self.assertEqual(Origins([(falling(), "", 0, 1, 9, "there")]).spans(), [(1, 9)])

    def test_a_strength_just_so(self):
        self.assertEqual(Origins([(falling(), "...", 0, 1, 9, 4)]).spans(), [(7, 7)])
        self.assertEqual(Origins([(falling(), "...", 0, 1, 6, 4)]).spans(), [None])
        self.assertEqual(Origins([(halving(cap=50), "..", 0, 1, 50, 4)]).spans(), [(16, 19)])
        self.assertEqual(Origins([(halving(cap=50), "..", 0, 18, 50, 4)]).spans(), [(18, 19)])
        # An asking lifts all from 7 on to the cap.
        self.assertEqual(Origins([(falling(), "a", 0, 1, 9, 9)]).spans(), [(7, 9)])
        self.assertEqual(Origins([(falling(), "a", 0, 1, 9, 8)]).spans(), [(6, 6)])
        self.assertEqual(Origins([(falling(), "a.", 0, 1, 9, 9)]).spans(), [None])
        self.assertEqual(Origins([(falling(), "a.", 0, 1, 9, 8)]).spans(), [(7, 9)])

    def test_above_the_cap(self):
        for seen in (10, 11, BILLION):
            for row in ("", ".", "a", "." * 9):
                self.assertEqual(Origins([(falling(), row, 0, 1, 9, seen)]).spans(), [None])

    def test_low_and_high_alike_at_one_and_at_the_cap(self):
        for at in (1, 2, 8, 9):
            told = [Origins([(falling(), "a.", 0, at, at, seen)]).spans()[0] for seen in (None, "there", 0, at + 1, 8)]
            fits = (at, at)
            self.assertEqual(told[:3], [fits, fits, None])
            self.assertEqual(told[3], fits if at + 1 == min(at + 2, 9) - 1 else None)
            self.assertEqual(told[4], fits if min(at + 2, 9) == 9 else None)

    def test_by_the_since(self):
        wane = Wane([(1, 5)], [(1, 0), (1, 3)], cap=9, lift=0)
        for since, taken in ((0, 5), (1, 0), (2, 3), (3, 0), (FAR, 3), (FAR - 1, 0)):
            self.assertEqual(Origins([(wane, ".", since, 1, 9, "there")]).spans(), [(taken + 1, 9)])

    def test_held_against_trying_each(self):
        chance = random.Random(81)
        for _ in range(1500):
            part = some_part(chance)
            fits = slow_fits(part)
            told = Origins([part]).spans()
            self.assertEqual(told, [(fits[0], fits[-1]) if fits else None])
            self.assertEqual(fits, list(range(fits[0], fits[-1] + 1)) if fits else [])

    def test_long_rows(self):
        chance = random.Random(82)
        for _ in range(100):
            wane = some_wane(chance, caps=(20, 50))
            row = "".join(chance.choice("..a") for _ in range(200))
            seen = chance.choice([None, "there", 0, along(wane, 5, row)[-1][0]])
            part = (wane, row, FAR, 1, wane.cap(), seen)
            fits = slow_fits(part)
            self.assertEqual(Origins([part]).spans(), [(fits[0], fits[-1]) if fits else None])

    def test_caps_of_a_billion_without_trying(self):
        chance = random.Random(83)
        for _ in range(300):
            wane = some_wane(chance, caps=(BILLION,))
            row, since = some_row(chance, 30), chance.choice([0, 3, FAR])
            seen = along(wane, chance.randint(1, BILLION), row, since=since)[-1][0]
            part = (wane, row, since, 1, BILLION, chance.choice([seen, seen, "there", 0]))
            origin, many = calls_of(Origins, [part])
            self.assertLess(many, 2000)
            span = origin.spans()[0]
            for at in (span or ()):
                self.assertTrue(is_seen(part, at))
            beside = [1, BILLION] if span is None else [at for at in (span[0] - 1, span[1] + 1) if 1 <= at <= BILLION]
            for at in beside:
                self.assertFalse(is_seen(part, at))
            if part[5] == seen:
                self.assertIsNotNone(span)

    def test_kinds(self):
        origin = Origins([(falling(), "", 0, 1, 9, None), (falling(), "", 0, 1, 9, 0)])
        told = origin.spans()
        self.assertEqual((type(told), type(told[0]), told[1]), (list, tuple, None))
        told.clear()
        self.assertEqual(origin.spans(), [(1, 9), None])


class Lists(unittest.TestCase):
    def test_by_hand(self):
        origin = Origins([(falling(), "", 0, 2, 3, None), (falling(), "...", 0, 1, 9, 0)])
        self.assertEqual((origin.spans(), origin.many()), ([(2, 3), (1, 3)], 6))
        rows = [origin.list_of(number) for number in range(6)]
        self.assertEqual(rows, [[2, 1], [2, 2], [2, 3], [3, 1], [3, 2], [3, 3]])
        self.assertEqual([origin.number_of(row) for row in rows], list(range(6)))

    def test_none_fits(self):
        for parts in (
            [(falling(), "", 0, 1, 9, 0)], [(falling(), "", 0, 1, 9, None), (falling(), "", 0, 1, 9, 0)],
            [(falling(), "", 0, 1, 9, 10), (falling(), "", 0, 1, 9, None)],
        ):
            origin = Origins(parts)
            self.assertEqual(origin.many(), 0)
            for number in (0, 1, FAR):
                with self.assertRaises(NoNumber) as caught:
                    origin.list_of(number)
                self.assertEqual(caught.exception.number, number)
            with self.assertRaises(NotOne):
                origin.number_of([5] * len(parts))

    def test_beyond(self):
        origin = Origins([(falling(), "", 0, 2, 3, None)])
        self.assertEqual((origin.list_of(0), origin.list_of(1)), ([2], [3]))
        for number in (2, 3, 10 ** 20, 10 ** 5000):
            with self.assertRaises(NoNumber) as caught:
                origin.list_of(number)
            self.assertIs(type(caught.exception), NoNumber)
            self.assertEqual(caught.exception.number, number)

    def test_great_numbers(self):
        wane = still(cap=BILLION)
        origin = Origins([(wane, "", 0, 1, BILLION, None)] * 8)
        self.assertEqual(origin.many(), 10 ** 72)
        self.assertEqual(origin.list_of(0), [1] * 8)
        self.assertEqual(origin.list_of(10 ** 72 - 1), [BILLION] * 8)
        self.assertEqual(origin.list_of(10 ** 63), [2] + [1] * 7)
        self.assertEqual(origin.list_of(10 ** 63 - 1), [1] + [BILLION] * 7)
        chance = random.Random(84)
        for _ in range(200):
            number = chance.randrange(10 ** 72)
            row = origin.list_of(number)
            self.assertEqual((origin.number_of(row), len(row)), (number, 8))
        with self.assertRaises(NoNumber):
            origin.list_of(10 ** 72)

    def test_not_one(self):
        origin = Origins([(falling(), "", 0, 2, 5, None), (halving(cap=50), "..", 0, 1, 50, 4)])
        self.assertEqual(origin.spans(), [(2, 5), (16, 19)])
        for row in ([1, 16], [6, 16], [2, 15], [2, 20], [10, 16], [2, 51], [BILLION, 16], [2, BILLION], [1, 1]):
            with self.assertRaises(NotOne) as caught:
                origin.number_of(row)
            self.assertIs(type(caught.exception), NotOne)
        self.assertEqual((origin.number_of([2, 16]), origin.number_of([5, 19])), (0, 15))

    def test_held_against_all_lists(self):
        chance = random.Random(85)
        for _ in range(150):
            parts = [some_part(chance, caps=(1, 2, 4, 6)) for _ in range(chance.randint(1, 4))]
            wanted = [list(row) for row in product(*[slow_fits(part) for part in parts])]
            origin = Origins(parts)
            self.assertEqual(origin.many(), len(wanted))
            self.assertEqual([origin.list_of(number) for number in range(len(wanted))], wanted)
            self.assertEqual([origin.number_of(row) for row in wanted], list(range(len(wanted))))
            self.assertEqual(wanted, sorted(wanted))
            for row in product(range(1, 8), repeat=len(parts)) if len(parts) < 3 else ():
                if list(row) not in wanted:
                    with self.assertRaises(NotOne):
                        origin.number_of(list(row))

    def test_new_lists(self):
        origin = Origins([(falling(), "", 0, 2, 5, None)])
        told = origin.list_of(1)
        told.append(5)
        self.assertEqual(origin.list_of(1), [3])
        row = [3]
        self.assertEqual((origin.number_of(row), row), (1, [3]))


class Refused(unittest.TestCase):
    def test_wrong_parts(self):
        good = (falling(), "..a", 0, 1, 9, None)
        wrong_parts = [good[:-1], (*good, 1), list(good), (), None, "there", good[0]]
        for at, things in (
            (0, not_wanes()), (1, ["b", ". ", "." * 201, ".A", 0, [], ["."], (".",), *strange_things()]),
            (2, not_moments()), (3, [0, -1, 10, BILLION, "1", *strange_things()]),
            (4, [0, -1, 10, BILLION, "1", *strange_things()]),
            (5, [-1, BILLION + 1, "", "gone", "0", "THERE", "there ", [], [5], (5,), *strange_things()[1:]]),
        ):
            wrong_parts += [(*good[:at], thing, *good[at + 1:]) for thing in things]
        wrong_parts += [(falling(), "", 0, 5, 4, None), (falling(), "", 0, 9, 8, None)]
        for part in wrong_parts:
            for parts in ([part], [good, part], [part, good]):
                self.assertEqual(wrong_place(self, Origins, parts), 0)
        for parts in ([], [good] * 9, (good,), good, 0, "", {}, *strange_things()):
            self.assertEqual(wrong_place(self, Origins, parts), 0)
        self.assertEqual(Origins([good] * 8).many(), 9 ** 8)

    def test_wrong_numbers_and_lists(self):
        origin = Origins([(falling(), "", 0, 1, 9, None)] * 2)
        for number in (-1, -FAR, "0", "", [], [0], (0,), *strange_things()):
            self.assertEqual(wrong_place(self, origin.list_of, number), 0)
        wrong = [0, -1, BILLION + 1, "1", "", [1], (1,), *strange_things()]
        for row in (
            [], [1], [1, 1, 1], (1, 1), "11", 11, *[[1, thing] for thing in wrong], *[[thing, 1] for thing in wrong],
            *strange_things(),
        ):
            self.assertEqual(wrong_place(self, origin.number_of, row), 0)

    def test_lists_handed_in_may_change_later_on(self):
        parts = [(falling(), "", 0, 1, 9, None)]
        origin = Origins(parts)
        parts.clear()
        self.assertEqual((origin.spans(), origin.many()), ([(1, 9)], 9))

    def test_two_know_nothing_of_one_another(self):
        one, other = Origins([(falling(), "", 0, 1, 9, None)]), Origins([(falling(), "", 0, 1, 4, None)])
        self.assertEqual((one.many(), other.many()), (9, 4))

    def test_defined_in_its_file_with_its_methods(self):
        self.assertEqual(Origins.__module__, origins.__name__)
        for name in ("__init__", "spans", "many", "list_of", "number_of"):
            self.assertIn(name, vars(Origins))


if __name__ == "__main__":
    unittest.main()
