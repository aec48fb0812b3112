import random
import unittest

from deeds import NAMES, TRILLION, daily, done, late_stores, some_deed, some_stores, some_wane, still
from slow_store import told_by
from things import BILLION, FAR, calls_of, strange_things, wrong_place
from wanehold import texts
from wanehold.errors import NoText, TooFar
from wanehold.joins import join_stores, part_store
from wanehold.store import Store
from wanehold.texts import read_store, write_store
from wanehold.wanes import Wane

SIGNS = [chr(code) for code in range(32, 127) if chr(code) != "%"] + ["\n"]


def deeds_done(store, rows):
    """What a store tells behind each of the deeds."""
    told = []
    for word, *given in rows:
        try:
            answer = done(store, word, *given)
        except TooFar:
            answer = "TooFar"
        told.append((answer, told_by(store, NAMES), store.hire("zz", (1,)) if len(store.askers()) < 8 else 0))
    return told


class Reads(unittest.TestCase):
    def look_at(self, store, rows=()):
        """Write and read a store, hold all that both tell against one another, and tell the text."""
        before = told_by(store, NAMES)
        text = write_store(store)
        self.assertIs(type(text), str)
        self.assertTrue(all(sign in SIGNS for sign in text))
        read = read_store(text)
        self.assertIs(type(read), Store)
        self.assertEqual(told_by(store, NAMES), before)
        self.assertEqual(told_by(read, NAMES), before)
        self.assertEqual((write_store(store), write_store(read)), (text, text))
        one, other = store.copied(), read
        self.assertEqual(deeds_done(one, rows), deeds_done(other, rows))
        self.assertEqual(told_by(store, NAMES), before)
        return text

    def refused(self, text):
        with self.assertRaises(NoText) as caught:
            read_store(text)
        self.assertIs(type(caught.exception), NoText)


def whole_store():
    """A store that has all that there is to be written."""
    store = Store([1000, 50, 7, TRILLION], stirs=[-2, 3] + [0] * 7 + [-BILLION], grain=4, fade=3)
    store.put("a", 0, Wane([(2, 0)], [(1, 1), (1, 0)], cap=400, lift=8, anew=False), 300)
    store.put("b", 1, Wane([], [(1, 2)], cap=90, lift=5), 80)
    store.put("abcdefgh", 9, still(cap=BILLION), BILLION)
    store.put("e", 1, Wane([], [(1, 1)], cap=30, lift=0), 10)
    for name in ("a", "b", "e", "e"):
        store.ask(name)
    for name, hours in (("a", (1, 2)), ("zz", tuple(range(24))), ("b", (0, 23))):
        store.hire(name, hours)
    store.dismiss(2)
    store.hire("none", (5,))
    store.dismiss(4)
    store.mend(40)
    store.pass_on(30)
    return store


class Read(Reads):
    def test_an_empty_store(self):
        for store in (Store([1]), Store([1, TRILLION, 3, 4], stirs=[-BILLION] * 10, grain=BILLION, fade=BILLION)):
            self.look_at(store, [("put", "a", 0, still(), 1), ("pass_on", 30)])

    def test_a_whole_store(self):
        store = whole_store()
        self.assertEqual(store.trace("e"), 0)
        rows = [("ask", "a"), ("put", "c", 3, daily(1), 5), ("pass_on", 50), ("hire", "a", (3,)), ("mend", None),
                ("pass_on", FAR), ("take", "a"), ("put", "e", 2, still(), 1)]
        self.look_at(store, rows)

    def test_the_number_of_the_next_asker(self):
        store = Store([5])
        for _ in range(5):
            store.dismiss(store.hire("a", (1,)))
        self.assertEqual(read_store(write_store(store)).hire("a", (1,)), 6)
        self.look_at(store)

    def test_traces_fade_as_they_did(self):
        store = Store([500], grain=10, fade=3)
        store.put("a", 0, Wane([], [(1, 1)], cap=9, lift=0), 2)
        store.ask("a")
        store.ask("a")
        store.pass_on(4)
        self.assertEqual(store.trace("a"), 14)
        read = read_store(write_store(store))
        for one in (store, read):
            one.pass_on(3)
            self.assertEqual(one.trace("a"), 5)
            one.put("a", 0, still(), 1)
            self.assertEqual(one.thing("a")[2], 6)
        self.look_at(store)
        store.take("a")
        store.pass_on(1000)
        self.look_at(store, [("put", "a", 0, still(), 1)])

    def test_moments_and_numbers_beyond(self):
        store = Store([TRILLION], grain=BILLION)
        store.put("a", 0, still(cap=BILLION, lift=1, anew=True), 5)
        store.put("b", 0, still(cap=9), 5)
        store.hire("a", tuple(range(24)))
        for _ in range(5):
            store.pass_on(FAR)
        self.assertEqual((store.now(), store.thing("b")[3], store.thing("a")[4]), (5 * FAR, 5 * FAR, 5 * FAR))
        self.look_at(store, [("pass_on", FAR), ("pass_on", 7)])

    def test_rooms_of_great_numbers(self):
        store = Store([TRILLION, 3])
        store.put("a", 0, still(lift=3), 5)
        empty = Store([TRILLION, 3])
        for many in range(1, 1400):
            empty = join_stores(empty, empty)
            if many % 300 == 0:
                self.look_at(join_stores(store, empty), [("ask", "a"), ("pass_on", FAR)])
            if empty.rooms()[0] >= 10 ** 399:
                break
        self.assertTrue(10 ** 399 <= empty.rooms()[0] < 10 ** 400)
        self.look_at(empty, [("put", "a", 0, still(), 5)])
        # With more figures it may be refused, then or when it is read; but no other way.
        for _ in range(5):
            empty = join_stores(empty, empty)
        self.assertGreater(empty.rooms()[0], 10 ** 400)
        with self.assertRaises(ValueError):
            read_store(write_store(empty))
        for _ in range(15000):
            empty = join_stores(empty, empty)
        with self.assertRaises(ValueError):
            read_store(write_store(empty))

    def test_joined_and_parted(self):
        one, other = Store([500], grain=3), Store([100], grain=3)
        one.put("a", 0, still(lift=1), 90)
        one.hire("a", (3,))
        other.put("b", 0, daily(1), 9)
        both = join_stores(one, other)
        self.look_at(both, [("pass_on", 300), ("put", "a", 0, still(), 5)])
        for part in part_store(both, ["a"], [100]):
            self.look_at(part, [("pass_on", 300), ("put", "a", 0, still(), 5)])

    def test_a_long_story(self):
        store = Store([50, 20])
        chance = random.Random(111)
        for _ in range(2000):
            done(store, "put", chance.choice(NAMES), 0, Wane([], [(1, 1)], cap=40, lift=0), chance.randint(1, 40))
            if chance.random() < 0.1:
                store.pass_on(10)
        self.assertGreater(len(store.story()), 2000)
        text = self.look_at(store)
        self.refused(text[:-1])

    def test_it_goes_on_by_itself(self):
        store = whole_store()
        text = write_store(store)
        one, other = read_store(text), read_store(text)
        one.take("a")
        one.hire("b", (1,))
        self.assertEqual(told_by(other, NAMES), told_by(store, NAMES))
        self.assertEqual(write_store(store), text)

    def test_chance_stores(self):
        chance = random.Random(112)
        for _ in range(150):
            store = (some_stores if chance.random() < 0.7 else late_stores)(chance)[0]
            for _ in range(chance.choice([0, 5, 20])):
                word, *given = some_deed(chance)
                done(store, word, *given)
            rows = [some_deed(chance) for _ in range(10)]
            if store.mender() is None:
                rows = [("pass_on", chance.choice([FAR, 10 ** 20, 3000])), *rows]
            self.look_at(store, rows)

    def test_all_kinds_of_wanes(self):
        chance = random.Random(113)
        for _ in range(30):
            store = Store([TRILLION])
            for name in NAMES[:8]:
                wane = some_wane(chance)
                store.put(name, chance.randint(0, 9), wane, chance.randint(1, wane.cap()))
            self.look_at(store, [("pass_on", 40), ("ask", "a"), ("pass_on", 10 ** 20)])


class NoTexts(Reads):
    def near(self, sign):
        """Signs that are near a sign, or much like it."""
        near = [chr(ord(sign) + by) for by in (-1, 1)] if sign != "\n" else []
        near += [sign.upper(), sign.lower(), "0", "9", "1", " ", "\n", "-", "~", "a"]
        return [other for other in dict.fromkeys(near) if other in SIGNS and other != sign]

    def test_one_sign_put_otherwise(self):
        small = Store([7])
        small.put("a", 0, Wane([], [(1, 1)], cap=9, lift=0), 3)
        small.hire("a", (1,))
        for store, signs in ((whole_store(), self.near), (small, lambda sign: SIGNS)):
            text = write_store(store)
            for at, sign in enumerate(text):
                for other in signs(sign):
                    if other != sign:
                        self.refused(text[:at] + other + text[at + 1:])
            self.assertEqual(told_by(read_store(text), NAMES), told_by(store, NAMES))

    def test_in_a_long_text_too(self):
        store = whole_store()
        chance = random.Random(114)
        for _ in range(100):
            done(store, "put", "c", 0, Wane([], [(1, 1)], cap=40, lift=0), 7)
            done(store, "take", "c")
        text = write_store(store)
        for _ in range(500):
            at = chance.randrange(len(text))
            other = chance.choice([sign for sign in SIGNS if sign != text[at]])
            self.refused(text[:at] + other + text[at + 1:])

    def test_signs_left_out_or_too_many(self):
        text = write_store(whole_store())
        for at in range(len(text)):
            self.refused(text[:at] + text[at + 1:])
            self.refused(text[:at])
            self.refused(text[:at] + " " + text[at:])
            self.refused(text[:at] + text[at] + text[at:])
        for other in (text + "\n", text + " ", "\n" + text, text + text, text.upper(), text[::-1]):
            self.refused(other)

    def test_short_texts(self):
        for sign in ["", *SIGNS]:
            self.refused(sign)
        for one in SIGNS:
            for other in ("\n", " ", "0", "a"):
                self.refused(one + other)

    def test_texts_of_other_things(self):
        for text in (
            still().text(), "0" * 10, "\n" + "0" * 10, "\n\n\n" + "0" * 10, "9" * 5000, "\n" * 100, "none", "a" * 100,
        ):
            self.refused(text)

    def test_marked_as_a_text_is_but_told_otherwise(self):
        # Whoever writes the mark, too, is refused all the same where no store is told so.
        text = write_store(whole_store())
        body = text.rpartition("\n")[0]
        chance = random.Random(115)
        for _ in range(3000):
            at = chance.randrange(len(body))
            other = body[:at] + chance.choice(["", " ", "\n", "0", "9", "a", "-", "99999999999", "thing "]) + body[at + 1:]
            self.read_or_refused(other)
        rows = body.split("\n")
        for at in range(len(rows)):
            self.read_or_refused("\n".join(rows[:at] + rows[at + 1:]))
            self.read_or_refused("\n".join([*rows[:at], rows[at], *rows[at:]]))
        self.read_or_refused(body.replace(" ", " 0"))
        self.read_or_refused(body.replace("1", "9" * 5000))

    def test_marked_as_a_text_is_but_no_store_can_be_so(self):
        store = whole_store()
        store.put("e", 1, Wane([], [(1, 1)], cap=30, lift=0), 10)
        store.ask("e")
        store.pass_on(15)
        body = write_store(store).rpartition("\n")[0]
        rows = body.split("\n")
        first, stirs = rows[0].split(), rows[2]
        thing = next(row for row in rows if row.startswith("thing b"))
        trace = next(row for row in rows if row.startswith("trace"))
        askers = [row for row in rows if row.startswith("asker")]
        story = next(row for row in rows if row.startswith("story"))
        words = thing.split()
        for old, new in (
            (rows[0], " ".join(first[:-1])), (rows[0], " ".join([*first, "1"])),
            *[(rows[0], " ".join([*first[:at], wrong, *first[at + 1:]])) for at, wrong in (
                (0, "-1"), (0, "1" * 401), (1, "1000000001"), (2, "0"), (2, "1000000001"), (3, "2"), (4, "0"),
                (4, "1000000001"), (4, "None"), (4, ""),
            )],
            (rows[1], "1000 50 7 1000000000000 5"), (rows[1], "0 50 7 1000000000000"), (rows[1], ""),
            (rows[1], "1000 50 7 1000000208"), (rows[1], "1000"), (rows[1], "1000 50 7 1000000000000 "),
            (stirs, stirs + " 0"), (stirs, stirs.replace("-1000000000", "-1000000001")), (stirs, "0"), (stirs, ""),
            *[(thing, " ".join([*words[:at], wrong, *words[at + 1:]])) for at, wrong in (
                (0, "things"), (0, ""), (1, "B"), (1, ""), (2, "4"), (2, "-1"), (3, "10"), (4, "0"), (4, "91"),
                (5, "x"), (6, "x"), (7, "||"), (8, "1"), (10, "x"),
            )],
            (thing, " ".join(words[:7])), (thing, " ".join(words[:3])), (thing, "thing"),
            (trace, trace.replace("trace e", "trace b")), (trace, "trace e 0"), (trace, "trace E 5"), (trace, "trace e"),
            (trace, trace + " 1"), (askers[0], askers[1]), (askers[0], "asker 0 a 1 2"), (askers[1], "asker 5 b 0 23"),
            (askers[0], "asker 1 a"), (askers[0], "asker 1 A 1"), (askers[0], "asker 1 a 2 1"), (askers[0], "asker"),
            (askers[0], "asker 1 a 24"), (story, "story 0 a puts 0"), (story, "story 0 A put 0"),
            (story, "story 0 a put 4"), (story, "story 46 a put 0"), (story, "story 0 a put"), (story, story + " 0"),
        ):
            self.assertIn(old, rows)
            forged = "\n".join([new if row == old else row for row in rows])
            with self.subTest(row=old, forged=new):
                self.refused(forged + "\n" + texts._mark_of(forged))
        # Nine askers, nine things.
        rows[0] = "45 4 3 20 40"
        at = rows.index(askers[1]) + 1
        more = [f"asker {number} a 1" for number in range(4, 11)]
        self.read_or_refused("\n".join(rows[:at] + more[:6] + rows[at:]))
        forged = "\n".join(rows[:at] + more + rows[at:])
        self.refused(forged + "\n" + texts._mark_of(forged))
        at = rows.index(thing) + 1
        more = [thing.replace("thing b", f"thing b{letter}") for letter in "abcdef"]
        self.read_or_refused("\n".join(rows[:at] + more[:5] + rows[at:]))
        forged = "\n".join(rows[:at] + more + rows[at:])
        self.refused(forged + "\n" + texts._mark_of(forged))
        for at in range(3):
            few = "\n".join(rows[:at])
            self.refused(few + "\n" + texts._mark_of(few))

    def read_or_refused(self, body):
        text = body + "\n" + texts._mark_of(body)
        try:
            store = read_store(text)
        except NoText:
            return
        self.assertEqual(write_store(store), text)
        if store.mender() is None:
            store.pass_on(FAR)

    def test_whatever_is_no_text(self):
        for thing in (0, 1, 10 ** 5000, [], ["a"], (), ("ab",), Store([5]), *strange_things()):
            self.refused(thing)

    def test_what_is_no_store(self):
        for thing in (0, "", "a", write_store(Store([5])), [], [Store([5])], (), Store, *strange_things()):
            self.assertEqual(wrong_place(self, write_store, thing), 0)

    def test_few_steps(self):
        store = whole_store()
        store.mend(None)
        store.pass_on(FAR)
        text, many = calls_of(write_store, store)
        self.assertLess(many, 50000)
        read, many = calls_of(read_store, text)
        self.assertLess(many, 50000)
        self.assertLess(calls_of(read.pass_on, FAR)[1], 2 * 10 ** 6)

    def test_defined_in_their_file(self):
        for call in (write_store, read_store):
            self.assertEqual(call.__module__, texts.__name__)
        self.assertEqual(texts.__name__, "wanehold.texts")


if __name__ == "__main__":
    unittest.main()
