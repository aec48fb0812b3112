import unittest

from things import strange_things, wrong_place
from wanehold import single
from wanehold.errors import TooMany
from wanehold.single import along, lifted, row_of, since_behind, waned
from wanehold.wanes import Wane

FAR = 10 ** 30
BILLION = 10 ** 9
NOT_WANES = (None, True, 0, 1, "", "| 1-1 cap 9 lift 0 on", [], [(1, 0)], (), {}, object(), Wane, len)
NO_MOMENTS = (-1, FAR + 1, 10 ** 40, "0", "", [], [0], (), (0,), *strange_things())


def sample(anew=True):
    """A head of two steps, a tail of three; cap 100, lift 30."""
    return Wane([(1, 1), (2, 0)], [(1, 3), (3, 2), (2, 1)], cap=100, lift=30, anew=anew)


def slow_along(wane, strength, row, since):
    """What along tells, sign by sign from the words of the document."""
    states = [(strength, since)]
    for sign in row:
        if sign == ".":
            head, tail = wane.head(), wane.tail()
            by, take = head[since] if since < len(head) else tail[(since - len(head)) % len(tail)]
            strength = strength // by - take
            if strength < 1:
                strength = 0
            since += 1
        else:
            if strength != 0:
                strength = min(strength + wane.lift(), wane.cap())
            if wane.is_anew():
                since = 0
        states.append((strength, since))
    return states


class Waned(unittest.TestCase):
    def test_by_hand(self):
        wane = sample()
        told = [waned(wane, 50, since) for since in range(9)]
        self.assertEqual(told, [49, 25, 47, 14, 24, 47, 14, 24, 47])

    def test_whole_floors(self):
        wane = Wane([], [(2, 0), (3, 0), (9, 0), (7, 1)], cap=100, lift=0)
        self.assertEqual([waned(wane, x, 0) for x in (1, 2, 3, 4, 5, 99, 100)], [0, 1, 1, 2, 2, 49, 50])
        self.assertEqual([waned(wane, x, 1) for x in (1, 2, 3, 5, 6, 100)], [0, 0, 1, 1, 2, 33])
        self.assertEqual([waned(wane, x, 2) for x in (8, 9, 17, 18)], [0, 1, 1, 2])
        self.assertEqual([waned(wane, x, 3) for x in (6, 7, 13, 14, 20, 21)], [0, 0, 0, 1, 1, 2])

    def test_below_one_is_nought(self):
        wane = Wane([], [(1, 5)], cap=100, lift=0)
        self.assertEqual([waned(wane, x, 0) for x in (0, 1, 4, 5, 6, 7)], [0, 0, 0, 0, 1, 2])
        wane = Wane([], [(1, BILLION)], cap=BILLION, lift=0)
        self.assertEqual([waned(wane, x, 0) for x in (0, 1, BILLION)], [0, 0, 0])

    def test_nothing_taken(self):
        wane = Wane([], [(1, 0)], cap=BILLION, lift=0)
        self.assertEqual([waned(wane, x, FAR) for x in (0, 1, BILLION)], [0, 1, BILLION])

    def test_great_sinces(self):
        # 10 ** 30 - 2 is 2 by 3.
        self.assertEqual([waned(sample(), 50, FAR - k) for k in range(4)], [24, 14, 47, 24])

    def test_wrong(self):
        wane = sample()
        for thing in NOT_WANES:
            self.assertEqual(wrong_place(self, waned, thing, 1, 0), 0)
            self.assertEqual(wrong_place(self, waned, thing, None, None), 0)
        for strength in (-1, 101, BILLION, FAR, -FAR, "1", [], (1,), *strange_things()):
            self.assertEqual(wrong_place(self, waned, wane, strength, 0), 1)
            self.assertEqual(wrong_place(self, waned, wane, strength, -1), 1)
        for since in NO_MOMENTS:
            self.assertEqual(wrong_place(self, waned, wane, 1, since), 2)
            self.assertEqual(wrong_place(self, waned, wane, 0, since), 2)


class Lifted(unittest.TestCase):
    def test_by_hand(self):
        told = [lifted(sample(), x) for x in (0, 1, 2, 69, 70, 71, 99, 100)]
        self.assertEqual(told, [0, 31, 32, 99, 100, 100, 100, 100])
        self.assertEqual([lifted(sample(anew=False), x) for x in (0, 1, 100)], [0, 31, 100])

    def test_without_lift(self):
        wane = Wane([], [(1, 0)], cap=7, lift=0)
        self.assertEqual([lifted(wane, x) for x in range(8)], [0, 1, 2, 3, 4, 5, 6, 7])

    def test_lift_beyond_the_cap(self):
        wane = Wane([], [(1, 0)], cap=7, lift=BILLION)
        self.assertEqual([lifted(wane, x) for x in (0, 1, 6, 7)], [0, 7, 7, 7])

    def test_wrong(self):
        for thing in NOT_WANES:
            self.assertEqual(wrong_place(self, lifted, thing, 1), 0)
            self.assertEqual(wrong_place(self, lifted, thing, None), 0)
        for strength in (-1, 101, BILLION, FAR, "1", [], (1,), *strange_things()):
            self.assertEqual(wrong_place(self, lifted, sample(), strength), 1)


class Along(unittest.TestCase):
    def test_by_hand_anew(self):
        told = along(sample(), 20, "..a..a.")
        self.assertEqual(told, [(20, 0), (19, 1), (9, 2), (39, 0), (38, 1), (19, 2), (49, 0), (48, 1)])

    def test_by_hand_on(self):
        told = along(sample(anew=False), 20, "..a..a...")
        self.assertEqual(told, [
            (20, 0), (19, 1), (9, 2), (39, 2), (36, 3), (10, 4), (40, 4), (19, 5), (16, 6), (3, 7),
        ])

    def test_no_signs(self):
        for strength in (0, 1, 100):
            for since in (0, 5, FAR):
                self.assertEqual(along(sample(), strength, "", since=since), [(strength, since)])

    def test_since_left_out(self):
        self.assertEqual(along(sample(), 50, "."), along(sample(), 50, ".", since=0))
        self.assertNotEqual(along(sample(), 50, "."), along(sample(), 50, ".", since=1))

    def test_gone_stays_gone(self):
        self.assertEqual(along(sample(), 0, ".a..a."), [(0, 0), (0, 1), (0, 0), (0, 1), (0, 2), (0, 0), (0, 1)])
        told = along(sample(anew=False), 0, ".a..a.")
        self.assertEqual(told, [(0, 0), (0, 1), (0, 1), (0, 2), (0, 3), (0, 3), (0, 4)])

    def test_goes_on_the_way(self):
        self.assertEqual(along(sample(), 2, "..a."), [(2, 0), (1, 1), (0, 2), (0, 0), (0, 1)])
        self.assertEqual(along(sample(), 1, ".a."), [(1, 0), (0, 1), (0, 0), (0, 1)])

    def test_great_sinces(self):
        told = along(sample(anew=False), 100, "..a.", since=FAR)
        # 10 ** 30 - 2 is 2 by 3: the last step of the tail comes first.
        self.assertEqual(told, [(100, FAR), (49, FAR + 1), (46, FAR + 2), (76, FAR + 2), (23, FAR + 3)])
        told = along(sample(), 100, "..a.", since=FAR)
        self.assertEqual(told, [(100, FAR), (49, FAR + 1), (46, FAR + 2), (76, 0), (75, 1)])

    def test_two_hundred_signs(self):
        wane = Wane([(1, 2)], [(1, 1)], cap=BILLION, lift=9)
        self.assertEqual(along(wane, 1000, "." * 200)[-1], (1000 - 201, 200))
        self.assertEqual(along(wane, 1000, "a" * 200)[-1], (1000 + 9 * 200, 0))
        self.assertEqual(along(wane, 1000, ".a" * 100)[-1], (1000 + 7 * 100, 0))
        for row in ("." * 200, "a" * 200, ".a" * 100, "...a" * 50):
            self.assertEqual(len(along(wane, 1000, row)), 201)
            self.assertEqual(along(wane, 1000, row), slow_along(wane, 1000, row, 0))

    def test_as_the_document_says(self):
        rows = ["", ".", "a", "..a", "a..", "." * 60, ".....a" * 20, ".a.aa" * 40, "a" * 50]
        wanes = [
            sample(), sample(anew=False), Wane([], [(1, 0)], cap=BILLION, lift=BILLION),
            Wane([(9, 3)] * 24, [(1, k) for k in range(24)], cap=BILLION, lift=1000),
            Wane([(1, 0)], [(1, 1)] * 7 + [(2, 2)], cap=60, lift=11, anew=False),
        ]
        for wane in wanes:
            for strength in (0, 1, 2, wane.cap() // 2, wane.cap()):
                for since in (0, 1, 4, 23, 24, 25, 100, FAR - 1, FAR):
                    for row in rows:
                        told = along(wane, strength, row, since=since)
                        self.assertEqual(told, slow_along(wane, strength, row, since))

    def test_told_by_new_lists_of_tuples(self):
        wane = sample()
        told = along(wane, 20, "..a")
        self.assertIs(type(told), list)
        self.assertTrue(all(type(state) is tuple for state in told))
        told.clear()
        self.assertEqual(along(wane, 20, "..a"), [(20, 0), (19, 1), (9, 2), (39, 0)])

    def test_a_row_in_parts_is_the_row_at_once(self):
        for anew in (True, False):
            wane = sample(anew)
            for row in ("..a..a.", "...a" * 50, "a" * 10, "." * 30):
                whole = along(wane, 100, row, since=3)
                for cut in range(0, len(row) + 1, 1 + len(row) // 20):
                    first = along(wane, 100, row[:cut], since=3)
                    strength, since = first[-1]
                    self.assertEqual(first[:-1] + along(wane, strength, row[cut:], since=since), whole)

    def test_wrong(self):
        wane = sample()
        for thing in NOT_WANES:
            self.assertEqual(wrong_place(self, along, thing, 1, "", since=0), 0)
            self.assertEqual(wrong_place(self, along, thing, -1, "b", since=-1), 0)
        for strength in (-1, 101, BILLION, FAR, "1", [], (1,), *strange_things()):
            self.assertEqual(wrong_place(self, along, wane, strength, ""), 1)
            self.assertEqual(wrong_place(self, along, wane, strength, None, since=None), 1)
        for row in ("b", "." * 201, "A", " ", ". ", 0, [], ["."], (), b".", *strange_things()):
            self.assertEqual(wrong_place(self, along, wane, 1, row), 2)
            self.assertEqual(wrong_place(self, along, wane, 0, row, since=-1), 2)
        for since in NO_MOMENTS:
            self.assertEqual(wrong_place(self, along, wane, 1, "", since=since), 3)
            self.assertEqual(wrong_place(self, along, wane, 0, "..", since=since), 3)


class SinceBehind(unittest.TestCase):
    def test_by_hand(self):
        for row, anew, on in (
            ("", 0, 0), (".", 1, 1), ("a", 0, 0), ("..", 2, 2), (".a", 0, 1), ("..a.", 1, 3), ("a..aa...", 3, 5),
            ("." * 200, 200, 200), ("a" * 200, 0, 0), (".a" * 100, 0, 100), ("a." * 100, 1, 100),
        ):
            self.assertEqual(since_behind(sample(), row), anew)
            self.assertEqual(since_behind(sample(anew=False), row), on)

    def test_since_told(self):
        for since in (0, 1, 7, 10 ** 15, FAR):
            for row, anew, on in (("", since, 0), (".", since + 1, 1), ("..", since + 2, 2), ("a", 0, 0), (".a.", 1, 2)):
                self.assertEqual(since_behind(sample(), row, since=since), anew)
                self.assertEqual(since_behind(sample(anew=False), row, since=since), since + on)

    def test_as_along_tells(self):
        for anew in (True, False):
            for row in ("", "..a..a.", "...a" * 50, "." * 200):
                for strength in (0, 1, 100):
                    for since in (0, 5, FAR):
                        told = along(sample(anew), strength, row, since=since)[-1][1]
                        self.assertEqual(since_behind(sample(anew), row, since=since), told)

    def test_a_row_in_parts_is_the_row_at_once(self):
        for anew in (True, False):
            wane = sample(anew)
            for row in ("..a..a.", "...a" * 50, "." * 30):
                for cut in range(0, len(row) + 1, 1 + len(row) // 20):
                    first = since_behind(wane, row[:cut], since=3)
                    whole = since_behind(wane, row, since=3)
                    self.assertEqual(since_behind(wane, row[cut:], since=first), whole)

    def test_wrong(self):
        wane = sample()
        for thing in NOT_WANES:
            self.assertEqual(wrong_place(self, since_behind, thing, "", since=0), 0)
            self.assertEqual(wrong_place(self, since_behind, thing, None, since=None), 0)
        for row in ("b", "." * 201, "A", " ", ". ", 0, [], ["."], (), b".", *strange_things()):
            self.assertEqual(wrong_place(self, since_behind, wane, row), 1)
            self.assertEqual(wrong_place(self, since_behind, wane, row, since=-1), 1)
        for since in NO_MOMENTS:
            self.assertEqual(wrong_place(self, since_behind, wane, "", since=since), 2)


class RowOf(unittest.TestCase):
    def test_no_turns(self):
        for plans in ([], [(0,)], [tuple(range(24))] * 8):
            for begin in (0, 1, 23, FAR):
                self.assertEqual(row_of(plans, begin, 0), "")

    def test_no_plans(self):
        for turns in (1, 2, 24, 199, 200):
            self.assertEqual(row_of([], 5, turns), "." * turns)

    def test_by_hand(self):
        self.assertEqual(row_of([(1,)], 0, 3), ".a..")
        self.assertEqual(row_of([(0,)], 0, 3), "...")
        self.assertEqual(row_of([(2, 3)], 0, 4), "..a.a.")
        self.assertEqual(row_of([(1,), (1, 2), (3,)], 0, 4), ".aa.a.a.")
        self.assertEqual(row_of([(1,), (1,), (1,)], 0, 2), ".aaa.")
        self.assertEqual(row_of([(23,), (22, 23)], 20, 4), "..a.aa.")

    def test_about_the_begin_of_a_day(self):
        plans = [(0,), (23,), (0, 1)]
        self.assertEqual(row_of(plans, 21, 5), "..a.aa.a.")
        self.assertEqual(row_of(plans, 22, 3), ".a.aa.a")
        self.assertEqual(row_of(plans, 23, 1), ".aa")
        self.assertEqual(row_of(plans, 24, 1), ".a")
        self.assertEqual(row_of(plans, 25, 1), ".")
        self.assertEqual(row_of(plans, 47, 2), ".aa.a")
        self.assertEqual(row_of([(0,)], 0, 48), "." * 24 + "a" + "." * 24 + "a")

    def test_great_moments(self):
        # 10 ** 30 is 16 by 24.
        plans = [(17,), (16, 18)]
        self.assertEqual(row_of(plans, FAR, 4), ".a.a..")
        self.assertEqual(row_of(plans, FAR - 1, 2), ".a.a")
        self.assertEqual(row_of(plans, FAR - 2, 1), ".")
        self.assertEqual(row_of([(17,)], FAR, 48), ".a" + "." * 24 + "a" + "." * 23)

    def test_each_moment_as_the_document_says(self):
        plans = [(0, 6, 12), (5,), (5, 6), (23,)]
        for begin in (0, 3, 22, 23, 24, 1000, FAR - 5, FAR):
            for turns in (0, 1, 2, 30, 120):
                row = ""
                for moment in range(begin + 1, begin + turns + 1):
                    row += "."
                    for hours in plans:
                        if moment % 24 in hours:
                            row += "a"
                self.assertEqual(row_of(plans, begin, turns), row)

    def test_eight_plans(self):
        self.assertEqual(row_of([(1,)] * 8, 0, 2), ".aaaaaaaa.")
        self.assertEqual(row_of([(k,) for k in range(1, 9)], 0, 9), ".a" * 8 + ".")

    def test_two_hundred_signs_and_more(self):
        whole_day = tuple(range(24))
        self.assertEqual(row_of([whole_day], 7, 100), ".a" * 100)
        self.assertEqual(row_of([whole_day] * 7, 7, 25), ".aaaaaaa" * 25)
        self.assertEqual(row_of([(1,)], 1, 192), "." * 23 + ("." + "a" + "." * 23) * 7 + "." + "a")
        self.assertEqual(row_of([], 0, 200), "." * 200)
        for plans, begin, turns in (
            ([whole_day], 7, 101), ([whole_day], 7, 200), ([whole_day] * 8, 0, 23), ([whole_day] * 8, FAR, 200),
            ([(1,)], 0, 200), ([(1,)], 1, 193), ([(0,)], FAR, 200),
        ):
            with self.assertRaises(TooMany) as caught:
                row_of(plans, begin, turns)
            self.assertEqual(caught.exception.most, 200)

    def test_plans_are_not_changed(self):
        plans = [(1, 2), (3,)]
        row_of(plans, 0, 10)
        self.assertEqual(plans, [(1, 2), (3,)])

    def test_wrong(self):
        for plans in (
            [()], [(24,)], [(1, 0)], [(1, 1)], [[1]], [1], ["a"], [None], [(1,), None], [(True,)], [(1,)] * 9, [()] * 8,
            0, 1, "", "a", (), (1,), ((1,),), *strange_things(),
        ):
            self.assertEqual(wrong_place(self, row_of, plans, 0, 0), 0)
            self.assertEqual(wrong_place(self, row_of, plans, -1, -1), 0)
        for begin in NO_MOMENTS:
            self.assertEqual(wrong_place(self, row_of, [], begin, 0), 1)
            self.assertEqual(wrong_place(self, row_of, [(1,)], begin, 201), 1)
        for turns in (-1, 201, FAR, -FAR, "1", [], (1,), *strange_things()):
            self.assertEqual(wrong_place(self, row_of, [], 0, turns), 2)
            self.assertEqual(wrong_place(self, row_of, [tuple(range(24))] * 8, 0, turns), 2)


class Interface(unittest.TestCase):
    def test_each_is_defined_in_its_file(self):
        for word in ("waned", "lifted", "along", "since_behind", "row_of"):
            self.assertEqual(getattr(single, word).__module__, "wanehold.single")

    def test_since_stands_behind_the_star(self):
        with self.assertRaises(TypeError):
            along(sample(), 1, "", 0)
        with self.assertRaises(TypeError):
            since_behind(sample(), "", 0)

    def test_the_same_is_told_again(self):
        wane = sample()
        text = wane.text()
        for _ in range(3):
            self.assertEqual(waned(wane, 50, 3), 14)
            self.assertEqual(lifted(wane, 50), 80)
            self.assertEqual(along(wane, 20, ".a"), [(20, 0), (19, 1), (49, 0)])
            self.assertEqual(since_behind(wane, ".a."), 1)
            self.assertEqual(row_of([(1,)], 0, 2), ".a.")
            self.assertEqual(wane.text(), text)


if __name__ == "__main__":
    unittest.main()
