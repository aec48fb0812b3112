import random
import unittest

from deeds import NAMES, TRILLION, daily, do_some, late_stores, passed_on, some_stores, still
from slow_store import told_by
from things import BILLION, FAR, calls_of, not_moments, wrong_place
from wanehold.errors import TooFar
from wanehold.store import Store
from wanehold.wanes import Wane

class ByHand(unittest.TestCase):
    def test_no_turns(self):
        store = Store([50], grain=1)
        store.put("a", 0, still(lift=1), 9)
        store.hire("a", (0,))
        before = told_by(store, "a")
        for mark in (None, 9):
            store.mend(mark)
            self.assertIsNone(store.pass_on(0))
            self.assertEqual(told_by(store, "a"), {**before, "mender": mark})

    def test_an_empty_store(self):
        store = Store([50])
        for turns, now in ((1, 1), (23, 24), (FAR, FAR + 24), (FAR, 2 * FAR + 24)):
            store.pass_on(turns)
            self.assertEqual((store.now(), store.state(), store.story()), (now, (), []))

    def test_fades_far_off(self):
        store = Store([TRILLION])
        store.put("a", 0, daily(1), BILLION)
        at = 24 * BILLION
        for turns, strength in (
            (24, BILLION - 1), (24 * 10 ** 6 + 23, BILLION - 10 ** 6), (at - 1, 1), (at - 24, 1), (at - 25, 2),
        ):
            self.assertEqual(passed_on(store, turns).thing("a"), (0, 0, strength, turns, 0))
        for turns in (at, at + 1, at + 5000, FAR):
            copy = passed_on(store, turns)
            self.assertEqual((copy.story()[1:], copy.now()), ([(at, "a", "faded", 0)], turns))

    def test_sinces_and_askings_far_off(self):
        store = Store([TRILLION])
        for name, anew in (("a", True), ("b", False), ("c", True)):
            store.put(name, 0, Wane([(1, 0)] * 5, [(1, 0)] * 3, cap=90, lift=1, anew=anew), 1)
        for name in "ab":
            store.hire(name, (3, 20))
            store.hire(name, (3,))
        store.pass_on(FAR)
        # 10 ** 30 is 16 by 24.
        days = FAR // 24
        self.assertEqual([store.thing(name) for name in "abc"], [
            (0, 0, 90, 13, 3 * days + 2), (0, 0, 90, FAR, 3 * days + 2), (0, 0, 1, FAR, 0),
        ])
        phase = 5 + (FAR - 5) % 3
        self.assertEqual(store.state(), (("a", 0, 90, 7), ("b", 0, 90, phase), ("c", 0, 1, phase)))
        store.pass_on(5)
        told = [store.thing(name)[3:] for name in "abc"]
        self.assertEqual(told, [(1, 3 * days + 3), (FAR + 5, 3 * days + 3), (FAR + 5, 0)])

    def test_rises_far_off(self):
        store = Store([TRILLION])
        store.put("a", 0, daily(1, lift=3), 5)
        store.hire("a", (7,))
        self.assertEqual(passed_on(store, 24 * 10 ** 8).thing("a")[2], 5 + 2 * 10 ** 8)
        told = [passed_on(store, (FAR // 24 - 1) * 24 + hour).thing("a")[2] for hour in (0, 6, 7, 16, 23, 24)]
        self.assertEqual(told, [BILLION - 1, BILLION - 1, BILLION, BILLION, BILLION, BILLION - 1])

    def test_crowding_that_comes_late(self):
        store = Store([BILLION, 5000], stirs=[0] * 10)
        store.put("a", 0, still(lift=1), BILLION // 2)
        store.put("b", 0, still(lift=1), 1000)
        store.hire("a", (9,))
        store.hire("b", (11,))
        # Together a billion behind 249999500 days; then a at hour 9 is one too much: b moves on.
        days = (BILLION // 2 - 1000) // 2
        moved = 24 * days + 9
        self.assertEqual(len(passed_on(store, moved - 1).story()), 2)
        copy = passed_on(store, moved)
        self.assertEqual(copy.story()[2:], [(moved, "b", "moved", 1), (moved, "b", "crowded", 1)])
        self.assertEqual(copy.state(), (("a", 0, BILLION // 2 + days + 1, 0),))
        self.assertEqual(passed_on(store, FAR).story(), copy.story())

    def test_crowding_in_one_hour_of_the_day(self):
        # b is lifted at hour 5 and falls at hour 6: only at hour 5 the room is too full, some day.
        store = Store([1000, 1000])
        store.put("a", 0, Wane([], [(1, 0)] * 24, cap=900, lift=1, anew=False), 500)
        store.put("b", 0, Wane([], [(1, 0)] * 5 + [(1, 90)] + [(1, 0)] * 18, cap=BILLION, lift=90, anew=False), 200)
        store.hire("a", (12,))
        store.hire("b", (5,))
        story = passed_on(store, FAR).story()[2:]
        # 290 and 711 at hour 5 of day 211.
        self.assertEqual(story, [(24 * 211 + 5, "b", "moved", 1)])

    def test_crowding_while_one_rises_and_one_falls(self):
        # a rises by 2 a day up to 400, b falls by 1 a day: the room is fullest when a comes to its cap.
        # At hour 1 of day 149 a is 400, and b 851.
        for limit, rows in ((1251, []), (1250, [(24 * 149 + 1, "a", "moved", 1)])):
            store = Store([limit, TRILLION])
            store.put("a", 0, still(cap=400, lift=2), 100)
            store.put("b", 0, daily(1), 1000)
            store.hire("a", (1,))
            self.assertEqual(passed_on(store, FAR).story()[2:], [*rows, (24 * 1000, "b", "faded", 0)])

    def test_crowding_on_one_day_alone(self):
        # a rises by 2 a day, for so many days, b falls by 1: on the last of these days the room is fullest.
        for days in (*range(1, 60), 10 ** 6, 10 ** 6 + 1, 10 ** 8):
            for less, rows in ((0, []), (1, [(24 * (days - 1) + 1, "a", "moved", 1)])):
                store = Store([BILLION + 1001 + days - less, TRILLION])
                store.put("a", 0, still(cap=1000 + 2 * days, lift=2), 1000)
                store.put("b", 0, daily(1), BILLION)
                store.hire("a", (1,))
                self.assertEqual(passed_on(store, 24 * (days + 5)).story()[2:], rows)

    def test_crowding_on_the_first_day_alone(self):
        # b is lifted at hour 5 and falls at hour 6; a falls, so that a day later the room would do.
        for limit, rows in ((1001, []), (1000, [(5, "b", "moved", 1)])):
            store = Store([limit, TRILLION])
            store.put("a", 0, daily(1), 901)
            store.put("b", 0, Wane([], [(1, 0)] * 5 + [(1, 90)] + [(1, 0)] * 18, cap=100, lift=90, anew=False), 10)
            store.hire("b", (5,))
            for turns in (5, 24, 24 * 100, 24 * 800):
                self.assertEqual(passed_on(store, turns).story()[2:], rows)

    def test_pressed_far_off(self):
        store = Store([TRILLION], stirs=[-1] + [0] * 9, grain=1)
        store.put("a", 0, still(), 5)
        store.put("b", 0, still(), BILLION)
        store.put("c", 0, daily(1), BILLION // 2)
        store.hire("a", (4,))
        # c falls by 2 a day: at hour 4, and at hour 0. b falls by 1.
        copy = passed_on(store, FAR)
        self.assertEqual(copy.story()[3:], [
            (24 * (BILLION // 4), "c", "faded", 0), (24 * (BILLION - 1) + 4, "b", "pressed", 0),
        ])
        self.assertEqual(copy.thing("a")[4], FAR // 24 + 1)

    def test_traces_far_off(self):
        store = Store([TRILLION], grain=1, fade=1)
        store.put("a", 0, daily(2, lift=1), BILLION)
        store.hire("a", (4,))
        # It falls by two, and is lifted by one, each day.
        copy = passed_on(store, 48 * BILLION)
        (moment, name, word, _), = copy.story()[1:]
        self.assertEqual((name, word), ("a", "faded"))
        askings = (moment - 4) // 24 + 1
        self.assertEqual(passed_on(store, moment).trace("a"), askings)
        self.assertEqual(passed_on(store, moment - 1).trace("a"), 0)
        self.assertEqual(copy.trace("a"), 0)
        self.assertEqual(passed_on(store, moment + 1000).trace("a"), askings - 1000)

    def test_wrong(self):
        store = Store([50])
        store.put("a", 0, still(), 9)
        for mark in (None, 5):
            store.mend(mark)
            before = told_by(store, "a")
            for turns in not_moments():
                self.assertEqual(wrong_place(self, store.pass_on, turns), 0)
            self.assertEqual(told_by(store, "a"), before)


class AtOnceAndTurnByTurn(unittest.TestCase):
    def test_held_against_the_document(self):
        chance = random.Random(28)
        for turns in (1, 5, 23, 24, 25, 48, 100, 1999, 2000, 2001, 3000):
            for _ in range(14):
                store, slow = some_stores(chance)
                do_some(self, chance, store, slow, 25)
                for one in (store, slow):
                    one.mend(None)
                    one.pass_on(turns)
                self.assertEqual(told_by(store, NAMES), slow.all_told(NAMES))

    def test_what_comes_late(self):
        chance = random.Random(29)
        words = {"faded": 0, "pressed": 0, "moved": 0, "crowded": 0}
        for _ in range(20):
            store, slow = late_stores(chance)
            for turns in (1, 20000, 57):
                store.pass_on(turns)
                slow.pass_on(turns)
                self.assertEqual(told_by(store, NAMES), slow.all_told(NAMES))
            for moment, _, word, _ in store.story():
                if moment > 500:
                    words[word] += 1
        self.assertGreater(min(words.values()), 2)

    def test_in_parts(self):
        chance = random.Random(30)
        for _ in range(60):
            store, slow = some_stores(chance) if chance.random() < 0.5 else late_stores(chance)
            do_some(self, chance, store, slow, 15)
            store.mend(None)
            for whole in (30, 3000, 10 ** 6, 10 ** 12, FAR):
                wanted = told_by(passed_on(store, whole), NAMES)
                cuts = sorted(chance.randint(0, whole) for _ in range(4))
                copy = store.copied()
                for one, other in zip([0, *cuts], [*cuts, whole]):
                    copy.pass_on(other - one)
                self.assertEqual(told_by(copy, NAMES), wanted)

    def test_one_turn_more(self):
        chance = random.Random(31)
        for _ in range(60):
            store, slow = late_stores(chance)
            for turns in (chance.randint(0, 20000), chance.randint(0, 10 ** 12), FAR - 1, FAR):
                copy = passed_on(store, turns)
                # What the store tells behind so many turns is the beginning of what one turn makes.
                after = passed_on(copy, 1)
                if turns < FAR:
                    self.assertEqual(told_by(after, NAMES), told_by(passed_on(store, turns + 1), NAMES))
                days = passed_on(copy, 100)
                for _ in range(99):
                    after.pass_on(1)
                self.assertEqual(told_by(after, NAMES), told_by(days, NAMES))

    def test_about_what_happens_late(self):
        # About each late row of the story: passed on turn by turn as well as at once.
        chance = random.Random(32)
        for _ in range(25):
            store, _ = late_stores(chance)
            for moment, *_ in passed_on(store, FAR).story()[-3:]:
                if moment > 100:
                    walked = passed_on(store, moment - 37)
                    for _ in range(60):
                        walked.pass_on(1)
                    self.assertEqual(told_by(walked, NAMES), told_by(passed_on(store, moment + 23), NAMES))

    def test_beyond_the_far_moment(self):
        chance = random.Random(33)
        for _ in range(20):
            store, _ = late_stores(chance)
            for _ in range(3):
                store.pass_on(FAR)
            self.assertEqual(store.now(), 3 * FAR)
            copy = passed_on(store, 24)
            self.assertEqual((copy.state(), copy.story()), (store.state(), store.story()))

    def test_few_steps_however_far(self):
        chance = random.Random(34)
        for _ in range(60):
            store, slow = some_stores(chance) if chance.random() < 0.5 else late_stores(chance)
            do_some(self, chance, store, slow, 15)
            store.mend(None)
            self.assertLess(calls_of(store.pass_on, FAR)[1], 10 ** 6)

    def test_stores_of_one_state_go_the_same_way(self):
        chance = random.Random(35)
        for _ in range(20):
            store, _ = late_stores(chance)
            # At rest the state is the same a week later, though sinces and askings are not.
            stores = [passed_on(store, 24 * 10 ** 9), passed_on(store, 24 * (10 ** 9 + 7))]
            told = []
            for one in stores:
                now, many = one.now(), len(one.story())
                if one.askers():
                    one.dismiss(one.askers()[0][0])
                one.hire("g", (4,))
                for name in one.there()[:2]:
                    one.take(name)
                one.put("g", 0, daily(1, cap=300, lift=1), 200)
                one.pass_on(10 ** 6)
                told.append((one.state(), one.there(), [(row[0] - now, *row[1:]) for row in one.story()[many:]]))
            self.assertEqual(told[0], told[1])


class WithAMender(unittest.TestCase):
    def falling(self, strength):
        """A store in which a thing is there for as many turns; nobody lifts it."""
        store = Store([TRILLION])
        store.put("a", 0, Wane([], [(1, 1)], cap=BILLION, lift=0), strength)
        store.mend(1)
        return store

    def test_up_to_2000_turns_are_always_done(self):
        store = self.falling(BILLION)
        for turns in (1, 24, 1999, 2000, 2000):
            now = store.now()
            store.pass_on(turns)
            self.assertEqual((store.now(), store.thing("a")[2]), (now + turns, BILLION - now - turns))

    def test_more_where_a_moment_comes_again(self):
        for strength in (1, 100, 1975, 1976):
            for turns in (2001, 5000, FAR):
                store = self.falling(strength)
                store.pass_on(turns)
                self.assertEqual(store.story()[1:], [(strength, "a", "faded", 0)])
                self.assertEqual((store.now(), store.there()), (turns, []))

    def test_too_far(self):
        for strength in (1977, 1978, 2000, 2001, BILLION):
            for turns in (2001, 2002, 5000, FAR):
                store = self.falling(strength)
                store.hire("b", (1,))
                store.pass_on(0)
                before = told_by(store, "ab")
                with self.assertRaises(TooFar) as caught:
                    store.pass_on(turns)
                self.assertEqual(caught.exception.most, 2000)
                self.assertEqual(told_by(store, "ab"), before)
                # Refused only with the mender.
                store.mend(None)
                store.pass_on(turns)
                self.assertEqual(store.now(), turns)

    def test_looked_for_from_where_the_store_is(self):
        store = self.falling(2500)
        with self.assertRaises(TooFar):
            store.pass_on(2001)
        store.pass_on(523)
        with self.assertRaises(TooFar):
            store.pass_on(2001)
        store.pass_on(1)
        store.pass_on(2001)
        self.assertEqual((store.now(), store.story()[1:]), (2525, [(2500, "a", "faded", 0)]))

    def test_the_hour_counts_too(self):
        # The state is the same turn by turn, but the hour comes again only a day later; the asker's work is told.
        store = Store([TRILLION])
        store.put("a", 0, Wane([], [(1, 0)], cap=9, lift=0), 9)
        store.hire("a", (3,))
        store.mend(BILLION)
        store.pass_on(FAR)
        self.assertEqual(store.thing("a"), (0, 0, 9, 0, FAR + FAR // 24 + 1))

    def test_mended_far_off(self):
        store = Store([TRILLION])
        store.put("a", 0, Wane([], [(1, 1)], cap=100, lift=10, anew=False), 50)
        store.put("b", 0, Wane([(1, 0)], [(1, 2)], cap=100, lift=10), 50)
        store.put("c", 0, Wane([(1, 0)], [(1, 0)] * 3, cap=100, lift=10), 99)
        store.mend(20)
        store.pass_on(FAR)
        walked = Store([TRILLION])
        for name in "abc":
            walked.put(name, 0, store.wane_of(name), {"a": 50, "b": 50, "c": 99}[name])
        walked.mend(20)
        walked.pass_on(2000)
        self.assertEqual(store.story(), walked.story())
        self.assertEqual((store.thing("a")[3], store.thing("c")[2:]), (FAR, (99, FAR, 0)))
        # The states come again, so that the store is where it was at some moment before.
        states = {}
        for _ in range(2000):
            walked.pass_on(1)
            states[walked.state()] = True
        self.assertIn(store.state(), states)

    def test_held_against_the_document(self):
        chance = random.Random(36)
        found = {"far": 0, "again": 0, "near": 0}
        for _ in range(120):
            store, slow = some_stores(chance)
            do_some(self, chance, store, slow, 15)
            mark = chance.choice([1, 5, 30, 400, BILLION])
            for one in (store, slow):
                one.mend(mark)
            turns = chance.choice([1, 24, 500, 2000, 2001, 2500, 3001])
            before = told_by(store, NAMES)
            seen = {}
            comes_again = turns <= 2000
            for done in range(turns):
                if done <= 2000:
                    key = (slow.moment % 24, slow.state())
                    comes_again = comes_again or key in seen
                    seen[key] = True
                slow.turn()
            if comes_again:
                store.pass_on(turns)
                self.assertEqual(told_by(store, NAMES), slow.all_told(NAMES))
                found["near" if turns <= 2000 else "again"] += 1
            else:
                with self.assertRaises(TooFar):
                    store.pass_on(turns)
                self.assertEqual(told_by(store, NAMES), before)
                found["far"] += 1
        self.assertGreater(min(found.values()), 3)

    def test_in_parts_far_off(self):
        chance = random.Random(37)
        many = 0
        for _ in range(60):
            store, slow = some_stores(chance)
            do_some(self, chance, store, slow, 15)
            store.mend(chance.choice([1, 5, 30, 400]))
            try:
                whole = passed_on(store, FAR)
            except TooFar:
                continue
            many += 1
            copy = passed_on(store, 2000)
            copy.pass_on(10 ** 20 - 2000)
            copy.pass_on(FAR - 10 ** 20)
            self.assertEqual(told_by(copy, NAMES), told_by(whole, NAMES))
            copy = passed_on(store, FAR)
            for turns in (1, 30, 2000):
                copy.pass_on(turns)
            self.assertEqual(copy.now(), store.now() + FAR + 2031)
        self.assertGreater(many, 20)


if __name__ == "__main__":
    unittest.main()
