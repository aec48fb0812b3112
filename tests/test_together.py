import random
import unittest

from deeds import NAMES, done, late_stores, row_of_deed, some_deed, some_stores, still
from slow_store import told_by
from things import FAR, calls_of
from wanehold.desk import Desk
from wanehold.errors import TooFar, WaneError
from wanehold.joins import join_stores, part_store
from wanehold.log import Log
from wanehold.store import Store
from wanehold.texts import read_store, write_store


class Tellers:
    """A store, a copy, one that is written and read anew behind each deed, a log and a desk, told the same deeds."""

    def __init__(self, case, rooms, stirs, grain, fade):
        self.case = case
        self.store = Store(rooms, stirs=stirs, grain=grain, fade=fade)
        self.copy = self.store.copied()
        self.read = read_store(write_store(self.store))
        self.log = Log(rooms, stirs=stirs, grain=grain, fade=fade)
        # By the store's numbers of askers those of the hire deeds of the log.
        self.hires = {}
        self.idle = []
        self.desk = Desk()
        words = ["new", "s", grain, fade, *rooms, "stirs", *stirs]
        self.desk.say(" ".join(map(str, words)))

    def tell(self, word, *given):
        """Tell a deed to all of them, and hold the answers against one another."""
        try:
            answer = done(self.store, word, *given)
        except TooFar:
            answer = "TooFar"
        self.copy = self.copy.copied()
        for other in (self.copy, self.read):
            try:
                self.case.assertEqual(done(other, word, *given), answer)
            except TooFar:
                self.case.assertEqual(answer, "TooFar")
        self.read = read_store(write_store(self.read))
        try:
            said = self.desk.say(row_of_deed("s", word, *given))
        except WaneError as refusal:
            said = type(refusal).__name__
        self.case.assertEqual(said, "ok" if answer is None else str(answer))
        if word != "pass_on":
            self.tell_log(answer, word, *given)
        return answer

    def tell_log(self, answer, word, *given):
        if word == "dismiss":
            given = (self.hires.get(given[0], 60 + given[0]),)
        number = self.log.tell(self.store.now(), (word, *given))
        if word == "hire" and type(answer) is int:
            self.hires[answer] = number
        if type(answer) is str:
            self.idle.append(number)

    def look(self):
        """All tell the same."""
        wanted = told_by(self.store, NAMES)
        self.case.assertEqual(told_by(self.copy, NAMES), wanted)
        self.case.assertEqual(told_by(self.read, NAMES), wanted)
        try:
            self.case.assertEqual(told_by(self.log.store_at(self.store.now()), NAMES), wanted)
            self.case.assertEqual(self.log.idle(self.store.now()), self.idle)
        except TooFar:
            # Between two deeds of the log the store was passed on by more than one way.
            self.case.assertIsNotNone(self.store.mender())
        self.look_at_desk()

    def look_at_desk(self):
        store, say = self.store, self.desk.say
        self.case.assertEqual(say("now s"), str(store.now()))
        self.case.assertEqual(say("there s"), " ".join(store.there()) or "none")
        for name in NAMES:
            self.case.assertEqual(say(f"trace s {name}"), str(store.trace(name)))
        for name in store.there():
            self.case.assertEqual(say(f"thing s {name}"), " ".join(map(str, store.thing(name))))
        for place in range(len(store.rooms())):
            self.case.assertEqual(say(f"total s {place}"), str(store.total(place)))
        story = "\n".join(" ".join(map(str, row)) for row in store.story())
        self.case.assertEqual(say("story s"), story or "none")


class TheSameDeeds(unittest.TestCase):
    def tellers(self, chance):
        rooms = [chance.choice([20, 200, 1000, 3000, 10 ** 10]) for _ in range(chance.randint(1, 4))]
        stirs = [chance.choice([0, 0, 1, -1, 10]) for _ in range(10)]
        return Tellers(self, rooms, stirs, chance.choice([0, 1, 5]), chance.choice([1, 2]))

    def test_near(self):
        chance = random.Random(141)
        for _ in range(30):
            tellers = self.tellers(chance)
            for _ in range(50):
                tellers.tell(*some_deed(chance))
                tellers.look()

    def test_far_off(self):
        chance = random.Random(142)
        for _ in range(20):
            tellers = self.tellers(chance)
            for _ in range(25):
                word, *given = some_deed(chance)
                if word == "mend":
                    word, given = "pass_on", [chance.choice([10 ** 20, 10 ** 20 + 5, 10 ** 25 + 17, 3000])]
                tellers.tell(word, *given)
                tellers.look()
            self.assertGreaterEqual(tellers.store.now(), 0)

    def test_with_a_mender_far_off(self):
        chance = random.Random(143)
        answers = []
        for _ in range(20):
            tellers = self.tellers(chance)
            for _ in range(15):
                tellers.tell(*some_deed(chance))
            tellers.tell("mend", 40)
            answers.append(tellers.tell("pass_on", 10 ** 20))
            tellers.look()
        self.assertIn(None, answers)


class Stories(unittest.TestCase):
    def test_stories_of_copies_go_on_by_themselves(self):
        store = Store([100])
        store.put("a", 0, still(), 5)
        copy = store.copied()
        store.take("a")
        copy.put("b", 0, still(), 5)
        third = store.copied()
        store.put("c", 0, still(), 5)
        third.put("d", 0, still(), 5)
        begin = [(0, "a", "put", 0)]
        self.assertEqual(copy.story(), [*begin, (0, "b", "put", 0)])
        self.assertEqual(store.story(), [*begin, (0, "a", "taken", 0), (0, "c", "put", 0)])
        self.assertEqual(third.story(), [*begin, (0, "a", "taken", 0), (0, "d", "put", 0)])

    def test_copies_of_copies_by_chance(self):
        chance = random.Random(146)
        told = [(Store([10 ** 10]), [])]
        for _ in range(2000):
            store, rows = chance.choice(told)
            if chance.random() < 0.1 and len(told) < 40:
                told.append((store.copied(), list(rows)))
                continue
            name = chance.choice("abc")
            if name in store.there():
                store.take(name)
                rows.append((0, name, "taken", 0))
            else:
                store.put(name, 0, still(), 5)
                rows.append((0, name, "put", 0))
            self.assertTrue(all(other.story() == wanted for other, wanted in told))


class OneAfterTheOther(unittest.TestCase):
    def test_joined_parted_written_and_logged_go_on_by_single_turns_as_at_once(self):
        chance = random.Random(144)
        for at in range(40):
            store = (late_stores if at % 2 else some_stores)(chance)[0]
            for _ in range(10):
                word, *given = some_deed(chance)
                if word != "mend":
                    done(store, word, *given)
            stores = [read_store(write_store(store))]
            empty = Store([1] * len(store.rooms()), stirs=store.stirs(), grain=store.grain(), fade=store.fade())
            empty.pass_on(store.now())
            both = join_stores(store, empty)
            stores += [both, *part_store(join_stores(both, empty), [], [1] * len(store.rooms()))]
            for other in stores:
                for turns in (10 ** 20, 10 ** 29 + 13):
                    one, parts, text = other.copied(), other.copied(), read_store(write_store(other))
                    for each in (one, text):
                        each.pass_on(turns)
                    for part in (7, turns - 20, 13):
                        parts.pass_on(part)
                    self.assertEqual(told_by(one, NAMES), told_by(parts, NAMES))
                    self.assertEqual(told_by(one, NAMES), told_by(text, NAMES))
                # One turn more is a turn.
                one.pass_on(1)
                other.pass_on(10 ** 29 + 14)
                self.assertEqual(told_by(one, NAMES), told_by(other, NAMES))

    def test_few_steps(self):
        chance = random.Random(145)
        for _ in range(10):
            store = late_stores(chance)[0]
            text = write_store(join_stores(store, Store(
                store.rooms(), stirs=store.stirs(), grain=store.grain(), fade=store.fade(),
            )))
            self.assertLess(calls_of(read_store(text).pass_on, FAR)[1], 3 * 10 ** 6)


if __name__ == "__main__":
    unittest.main()
