import random
import unittest

from deeds import NAMES, TRILLION, daily, refused, some_hours, some_wane, still
from slow_store import SlowStore, told_by
from things import BILLION, FAR, calls_of, not_moments, not_names, not_wanes, strange_things, wrong_place
from wanehold import log as file
from wanehold.errors import NoDeed, TooFar, TooMany
from wanehold.log import Log
from wanehold.store import Store
from wanehold.wanes import Wane


def falling(cap=90, lift=2):
    return Wane([], [(1, 1)], cap=cap, lift=lift)


def put(name, strength=50, wane=None, sort=0):
    return ("put", name, sort, wane or falling(), strength)


class SlowLog:
    """A log whose store is made turn by turn, by the words of the document."""

    def __init__(self, *made):
        self.made = made
        self.kept = {}

    def slow_at(self, moment, without=None):
        """The slow store at a moment, and the numbers of the idle deeds."""
        slow, idle, askers = SlowStore(*self.made), [], {}
        order = sorted((at, number) for number, (at, _) in self.kept.items() if at <= moment and number != without)
        for at, number in order:
            word, *given = self.kept[number][1]
            slow.pass_on(at - slow.moment)
            if word == "dismiss":
                given = [askers.pop(given[0], None)]
            if refused(slow, word, *given):
                idle.append(number)
                continue
            told = getattr(slow, word)(*given)
            if word == "hire":
                askers[number] = told
        slow.pass_on(moment - slow.moment)
        return slow, sorted(idle)


class Tells(unittest.TestCase):
    def test_a_new_log(self):
        log = Log([50, 20], stirs=[1] + [0] * 9, grain=2, fade=3)
        self.assertEqual((log.deeds(), log.idle(0), log.idle(FAR)), ([], [], []))
        for moment in (0, 1, 24, FAR):
            store = log.store_at(moment)
            self.assertIs(type(store), Store)
            self.assertEqual((store.now(), store.there(), store.story(), store.askers()), (moment, [], [], []))
            self.assertEqual((store.rooms(), store.stirs(), store.grain(), store.fade()), ([50, 20], [1] + [0] * 9, 2, 3))
        store = Log([5]).store_at(0)
        self.assertEqual((store.rooms(), store.stirs(), store.grain(), store.fade()), ([5], [0] * 10, 0, 1))

    def test_numbers_go_on(self):
        log = Log([50])
        self.assertEqual([log.tell(9 - at, ("ask", "a")) for at in range(5)], [1, 2, 3, 4, 5])
        for number in (2, 5):
            self.assertIsNone(log.unsaid(number))
        self.assertEqual(log.tell(0, ("ask", "a")), 6)
        for number in (1, 3, 4, 6):
            log.unsaid(number)
        self.assertEqual((log.deeds(), log.tell(0, ("ask", "a"))), ([], 7))

    def test_deeds(self):
        log = Log([50])
        wane = falling()
        deeds = [
            (9, ("put", "a", 3, wane, 5)), (2, ("ask", "a")), (FAR, ("take", "zz")), (2, ("hire", "a", (1, 2))),
            (0, ("dismiss", 10 ** 40)), (5, ("mend", 7)), (5, ("mend", None)),
        ]
        for deed in deeds:
            log.tell(*deed)
        wanted = [(at + 1, *deed) for at, deed in enumerate(deeds)]
        self.assertEqual(log.deeds(), wanted)
        self.assertTrue(all(type(row) is tuple for row in log.deeds()))
        log.deeds().clear()
        self.assertEqual(log.deeds(), wanted)
        log.unsaid(3)
        self.assertEqual(log.deeds(), wanted[:2] + wanted[3:])

    def test_sixty_are_kept(self):
        log = Log([50])
        for at in range(60):
            self.assertEqual(log.tell(0, ("hire", "a", (1,))), at + 1)
        for _ in range(2):
            with self.assertRaises(TooMany) as caught:
                log.tell(0, ("ask", "a"))
            self.assertEqual(caught.exception.most, 60)
        self.assertEqual(len(log.deeds()), 60)
        log.unsaid(30)
        self.assertEqual(log.tell(0, ("ask", "a")), 61)
        with self.assertRaises(TooMany):
            log.tell(0, ("ask", "a"))
        self.assertEqual([row[0] for row in log.deeds()], [*range(1, 30), *range(31, 62)])
        self.assertEqual(log.idle(0), [*range(9, 30), *range(31, 62)])

    def test_no_deed(self):
        log = Log([50])
        log.tell(3, put("a"))
        log.tell(3, put("b"))
        log.unsaid(1)
        before = log.deeds()
        for thing in (0, 1, 3, -2, FAR, "2", "", [], [2], (2,), 10 ** 5000, *strange_things()):
            with self.assertRaises(NoDeed) as caught:
                log.unsaid(thing)
            self.assertIs(caught.exception.number, thing)
            self.assertEqual(log.deeds(), before)
        log.tell(1, put("c"))
        with self.assertRaises(NoDeed):
            log.unsaid(True)
        self.assertIsNone(log.unsaid(2))

    def test_two_know_nothing_of_one_another(self):
        one, other = Log([50]), Log([50])
        one.tell(0, put("a"))
        self.assertEqual((other.deeds(), other.store_at(5).there(), other.tell(0, ("ask", "a"))), ([], [], 1))


class StoreAt(unittest.TestCase):
    def test_in_any_order_of_moments(self):
        log = Log([500])
        log.tell(20, ("take", "a"))
        log.tell(5, put("a", 30))
        log.tell(10, ("ask", "a"))
        told = [log.store_at(moment).there() for moment in (0, 4, 5, 19, 20, 21, FAR)]
        self.assertEqual(told, [[], [], ["a"], ["a"], [], [], []])
        strengths = [log.store_at(moment).thing("a")[2] for moment in (5, 9, 10, 11, 19)]
        self.assertEqual(strengths, [30, 26, 27, 26, 18])
        self.assertEqual(log.store_at(FAR).story(), [(5, "a", "put", 0), (20, "a", "taken", 0)])
        self.assertEqual(log.idle(FAR), [])
        # Told late, done in time.
        log.tell(7, ("ask", "a"))
        self.assertEqual(log.store_at(11).thing("a"), (0, 0, 28, 1, 2))

    def test_of_one_moment_by_their_numbers(self):
        log = Log([500])
        for deed in (("ask", "a"), put("a", 5), ("ask", "a"), ("take", "a"), ("take", "a"), put("a", 7)):
            log.tell(3, deed)
        self.assertEqual(log.store_at(3).thing("a"), (0, 0, 7, 0, 0))
        self.assertEqual(log.idle(3), [1, 5])
        self.assertEqual(log.idle(2), [])

    def test_idle_ones_of_all_kinds(self):
        log = Log([TRILLION])
        for name in "abcdefgh":
            log.tell(0, put(name, wane=still(), strength=5))
        log.tell(0, put("a"))
        log.tell(0, put("zz"))
        log.tell(1, ("ask", "zz"))
        log.tell(1, ("take", "zz"))
        for _ in range(9):
            log.tell(2, ("hire", "a", (1,)))
        log.tell(2, ("mend", None))
        log.tell(3, ("dismiss", 99))
        log.tell(3, ("dismiss", 1))
        self.assertEqual(log.idle(0), [9, 10])
        self.assertEqual(log.idle(1), [9, 10, 11, 12])
        self.assertEqual(log.idle(2), [9, 10, 11, 12, 21])
        self.assertEqual(log.idle(FAR), [9, 10, 11, 12, 21, 23, 24])
        self.assertEqual(log.store_at(3).there(), list("abcdefgh"))
        self.assertEqual(len(log.store_at(3).askers()), 8)

    def test_idle_is_rising_though_moments_fall(self):
        log = Log([5])
        for at in range(10):
            log.tell(100 - at, ("ask", "a"))
        self.assertEqual(log.idle(100), list(range(1, 11)))
        self.assertEqual(log.idle(95), list(range(6, 11)))
        told = log.idle(95)
        told.clear()
        self.assertEqual(log.idle(95), list(range(6, 11)))

    def test_dismissals_of_numbers_of_the_log(self):
        log = Log([500])
        log.tell(0, put("a"))
        hire = log.tell(5, ("hire", "a", (7,)))
        log.tell(9, ("dismiss", hire))
        store = log.store_at(8)
        self.assertEqual((hire, store.askers()), (2, [(1, "a", (7,))]))
        self.assertEqual((log.store_at(9).askers(), log.idle(9)), ([], []))
        # A second time it is idle, and so is one of what is no hire deed.
        log.tell(10, ("dismiss", hire))
        log.tell(10, ("dismiss", 1))
        self.assertEqual(log.idle(FAR), [4, 5])

    def test_dismissed_ahead_of_the_hire(self):
        log = Log([500])
        log.tell(5, ("dismiss", 3))
        log.tell(4, ("dismiss", 3))
        log.tell(5, ("hire", "a", (7,)))
        # Ahead by its moment, ahead by its number: both are idle.
        self.assertEqual((log.idle(9), log.store_at(9).askers()), ([1, 2], [(1, "a", (7,))]))
        log.tell(5, ("dismiss", 3))
        self.assertEqual((log.idle(9), log.store_at(9).askers()), ([1, 2], []))

    def test_dismissed_though_told_ahead(self):
        log = Log([500])
        log.tell(6, ("dismiss", 2))
        log.tell(5, ("hire", "a", (7,)))
        self.assertEqual((log.idle(9), log.store_at(5).askers(), log.store_at(6).askers()), ([], [(1, "a", (7,))], []))

    def test_dismissed_where_the_hire_is_idle(self):
        log = Log([500])
        hires = [log.tell(5, ("hire", "a", (at,))) for at in range(9)]
        log.tell(6, ("dismiss", hires[8]))
        self.assertEqual((log.idle(9), len(log.store_at(9).askers())), ([9, 10], 8))
        # As one of the others is taken back, the last one is hired, and dismissed.
        log.unsaid(hires[0])
        self.assertEqual((log.idle(9), len(log.store_at(9).askers())), ([], 7))
        log.unsaid(hires[8])
        self.assertEqual((log.idle(9), len(log.store_at(9).askers())), ([10], 7))

    def test_the_store_has_its_own_numbers(self):
        log = Log([500])
        log.tell(9, ("hire", "a", (1,)))
        log.tell(3, ("hire", "b", (2,)))
        log.tell(4, ("dismiss", 2))
        store = log.store_at(9)
        self.assertEqual(store.askers(), [(2, "a", (1,))])
        self.assertEqual(store.hire("c", (3,)), 3)

    def test_a_store_told_goes_on_by_itself(self):
        log = Log([500])
        log.tell(0, put("a"))
        store, other = log.store_at(5), log.store_at(5)
        store.take("a")
        store.hire("a", (1,))
        store.pass_on(3)
        self.assertEqual(other.there(), ["a"])
        self.assertEqual(told_by(log.store_at(5), NAMES), told_by(other, NAMES))
        self.assertEqual(len(log.deeds()), 1)

    def test_with_a_mender(self):
        log = Log([500])
        log.tell(0, put("a", 30))
        log.tell(10, ("mend", 20))
        self.assertEqual(log.store_at(2010).there(), ["a"])
        # At 11 it is 19, and lifted to 21; from 12 on it goes from 22 to 21 and back.
        strengths = [log.store_at(moment).thing("a")[2] for moment in (10, 11, 12, 13, 10 ** 25, 10 ** 25 + 1)]
        self.assertEqual(strengths, [20, 21, 22, 21, 22, 21])
        log.tell(15, ("mend", None))
        self.assertEqual(log.store_at(50).there(), [])

    def test_too_far(self):
        log = Log([TRILLION])
        log.tell(0, put("a", BILLION, Wane([], [(1, 1)], cap=BILLION, lift=0)))
        log.tell(5, ("mend", 1))
        last = log.store_at(2005)
        self.assertEqual(last.thing("a")[2], BILLION - 2005)
        for moment in (2006, FAR):
            for ask in (log.store_at, log.idle, lambda moment: log.changed_by(1, moment)):
                with self.assertRaises(TooFar) as caught:
                    ask(moment)
                self.assertEqual(caught.exception.most, 2000)
        with self.assertRaises(NoDeed):
            log.changed_by(3, FAR)
        # An idle deed parts the way into two.
        number = log.tell(1000, ("ask", "zz"))
        self.assertEqual((log.store_at(3000).thing("a")[2], log.idle(3000)), (BILLION - 3000, [number]))
        with self.assertRaises(TooFar):
            log.store_at(3001)
        # Without it the way is too far, and with it not.
        with self.assertRaises(TooFar):
            log.changed_by(number, 3000)
        self.assertEqual(log.changed_by(number, 2005), [])
        # With a mender it is too far, and without one not.
        for number in (1, 2):
            with self.assertRaises(TooFar):
                log.changed_by(number, 3001)
        log.unsaid(2)
        self.assertEqual(log.store_at(FAR).there(), [])

    def test_far_behind_the_deeds(self):
        log = Log([TRILLION], grain=1)
        log.tell(10 ** 20, put("a", BILLION, daily(1)))
        log.tell(10 ** 25, put("a", 7, daily(0, lift=5)))
        log.tell(10 ** 29, ("hire", "a", (3,)))
        store = Store([TRILLION], grain=1)
        store.pass_on(10 ** 20)
        store.put("a", 0, daily(1), BILLION)
        self.assertEqual(told_by(log.store_at(10 ** 20), NAMES), told_by(store, NAMES))
        store.pass_on(10 ** 24)
        self.assertEqual(told_by(log.store_at(10 ** 20 + 10 ** 24), NAMES), told_by(store, NAMES))
        store.pass_on(10 ** 25 - 10 ** 24 - 10 ** 20)
        store.put("a", 0, daily(0, lift=5), 7)
        store.pass_on(10 ** 29 - 10 ** 25)
        store.hire("a", (3,))
        store.pass_on(FAR - 10 ** 29)
        self.assertEqual(told_by(log.store_at(FAR), NAMES), told_by(store, NAMES))
        self.assertEqual(log.idle(FAR), [])
        self.assertEqual(log.changed_by(1, FAR), [])
        self.assertEqual(log.changed_by(1, 10 ** 20), ["a"])
        self.assertEqual(log.changed_by(3, FAR), ["a"])


class ChangedBy(unittest.TestCase):
    def test_by_hand(self):
        log = Log([100, 40])
        log.tell(0, put("b", 60))
        log.tell(1, put("a", 30))
        log.tell(2, put("c", 20))
        log.tell(3, ("ask", "a"))
        self.assertEqual([log.changed_by(number, 3) for number in (1, 2, 3, 4)], [["b", "c"], ["a", "c"], ["c"], ["a"]])
        # Ahead of it nothing is otherwise.
        self.assertEqual([log.changed_by(number, 1) for number in (1, 2, 3, 4)], [["b"], ["a"], [], []])
        self.assertEqual([log.changed_by(number, 0) for number in (1, 2, 3, 4)], [["b"], [], [], []])
        # Nothing is left of them.
        self.assertEqual([log.changed_by(number, 500) for number in (1, 2, 3, 4)], [[]] * 4)

    def test_by_the_wane_alone(self):
        log = Log([100])
        log.tell(0, put("a", 9, Wane([], [(1, 0)], cap=9, lift=2)))
        log.tell(0, ("take", "a"))
        log.tell(0, put("a", 9, Wane([], [(1, 0)], cap=9, lift=3)))
        # Without the taking the second putting is idle.
        self.assertEqual(log.changed_by(2, 0), ["a"])
        log.unsaid(3)
        log.tell(0, put("a", 9, Wane([], [(1, 0)], cap=9, lift=2)))
        self.assertEqual(log.changed_by(2, 0), [])

    def test_by_how_often_it_was_asked_alone(self):
        log = Log([100])
        log.tell(0, put("a", 9, Wane([], [(1, 0)], cap=9, lift=2, anew=False)))
        log.tell(4, ("ask", "a"))
        self.assertEqual((log.changed_by(2, 4), log.changed_by(2, FAR), log.changed_by(2, 3)), (["a"], ["a"], []))

    def test_an_idle_deed_changes_nothing(self):
        log = Log([100])
        log.tell(0, put("a"))
        for deed in (put("a"), ("ask", "zz"), ("dismiss", 1), ("take", "b")):
            log.tell(5, deed)
        self.assertEqual([log.changed_by(number, 20) for number in (2, 3, 4, 5)], [[]] * 4)

    def test_hire_deeds_meant_by_their_numbers(self):
        log = Log([100])
        log.tell(0, put("a", 20))
        log.tell(0, put("b", 20))
        log.tell(0, ("hire", "a", (3,)))
        log.tell(0, ("hire", "b", (3,)))
        log.tell(1, ("dismiss", 4))
        # Without the first hire the second asker has another number in the store, and is dismissed all the same.
        self.assertEqual(log.changed_by(3, 10), ["a"])
        self.assertEqual(log.changed_by(4, 10), [])
        self.assertEqual(log.changed_by(5, 10), ["b"])

    def test_no_deed(self):
        log = Log([100])
        log.tell(0, put("a"))
        log.tell(0, put("b"))
        log.unsaid(1)
        for number in (1, 3, 60, 10 ** 40):
            with self.assertRaises(NoDeed) as caught:
                log.changed_by(number, 5)
            self.assertEqual(caught.exception.number, number)
        self.assertEqual(log.changed_by(2, 5), ["b"])


class Wrongs(unittest.TestCase):
    def test_wrong_rooms_and_the_like(self):
        self.assertEqual([wrong_place(self, Log, thing) for thing in ([], [0], 5, "5", None, (5,), [1] * 5)], [0] * 7)
        for stirs in (0, [], [0] * 9, [0] * 11, (0,) * 10, [BILLION + 1] * 10, False):
            self.assertEqual(wrong_place(self, Log, [5], stirs=stirs, grain=-1, fade=0), 1)
        for grain in (-1, BILLION + 1, None, True, "0"):
            self.assertEqual(wrong_place(self, Log, [5], grain=grain, fade=0), 2)
        for fade in (0, BILLION + 1, None, True, "1"):
            self.assertEqual(wrong_place(self, Log, [5], fade=fade), 3)

    def test_behind_the_star(self):
        with self.assertRaises(TypeError):
            Log([5], None, 0, 1)

    def test_lists_handed_in_may_change_later_on(self):
        rooms, stirs = [50], [0] * 10
        log = Log(rooms, stirs=stirs)
        rooms.append(5)
        stirs[0] = 9
        self.assertEqual((log.store_at(0).rooms(), log.store_at(0).stirs()), ([50], [0] * 10))

    def test_wrong_moments(self):
        log = Log([5])
        log.tell(0, put("a", 3))
        for moment in not_moments():
            self.assertEqual(wrong_place(self, log.tell, moment, ("ask",)), 0)
            self.assertEqual(wrong_place(self, log.store_at, moment), 0)
            self.assertEqual(wrong_place(self, log.idle, moment), 0)
            self.assertEqual(wrong_place(self, log.changed_by, 1, moment), 1)
            self.assertEqual(wrong_place(self, log.changed_by, 9, moment), 1)
            self.assertEqual(wrong_place(self, log.changed_by, 0, moment), 0)
        for number in (0, -1, "1", "", [], [1], (1,), *strange_things()):
            self.assertEqual(wrong_place(self, log.changed_by, number, 5), 0)
        self.assertEqual(len(log.deeds()), 1)

    def test_wrong_deeds(self):
        wane = falling()
        wrong = [
            (), ("put",), ("put", "a", 0, wane), ("put", "a", 0, wane, 5, 5), ["ask", "a"], ("ask",), ("ask", "a", "a"),
            ("take",), ("take", "a", 1), ("hire", "a"), ("hire", "a", (1,), 1), ("dismiss",), ("dismiss", 1, 1),
            ("mend",), ("mend", 5, 5), ("pass_on", 5), ("pass", 5), ("", "a"), ("Ask", "a"), ("ask ", "a"), (0, "a"),
            (None, "a"), (("ask",), "a"), (["ask"], "a"), "ask", "ask a", 0, "", [], ("story",), ("copied",),
            ("put", "a", 0, wane, 91), ("put", "a", 0, wane, 0), ("put", "a", wane, 0, 5),
            *strange_things(), *[(thing, "a") for thing in strange_things()],
            *[("put", name, 0, wane, 5) for name in not_names()],
            *[("put", "a", sort, wane, 5) for sort in (-1, 10, "0", *strange_things())],
            *[("put", "a", 0, thing, 5) for thing in not_wanes()],
            *[("put", "a", 0, wane, strength) for strength in (-1, "5", [5], *strange_things())],
            *[(word, name) for word in ("ask", "take") for name in not_names()],
            *[("hire", name, (1,)) for name in not_names()],
            *[("hire", "a", hours) for hours in ((), [1], (24,), (2, 1), (1, 1), (True,), 1, "1", *strange_things())],
            *[("dismiss", number) for number in (0, -1, "1", [1], (1,), *strange_things())],
            *[("mend", mark) for mark in (0, -1, BILLION + 1, "none", [], *strange_things()[1:])],
        ]
        log = Log([5])
        for deed in wrong:
            self.assertEqual(wrong_place(self, log.tell, 3, deed), 1)
        self.assertEqual((log.deeds(), log.tell(3, ("ask", "a"))), ([], 1))
        # Wrong comes ahead of too many.
        for _ in range(59):
            log.tell(3, ("ask", "a"))
        self.assertEqual(wrong_place(self, log.tell, 3, ("ask", "")), 1)

    def test_deeds_at_the_bounds(self):
        log = Log([5])
        for deed in (
            ("dismiss", 1), ("dismiss", 10 ** 400), ("mend", 1), ("mend", BILLION), ("mend", None),
            ("hire", "abcdefgh", tuple(range(24))), ("put", "a", 9, falling(), 90),
        ):
            log.tell(FAR, deed)
        self.assertEqual(log.idle(FAR), [1, 2])

    def test_defined_in_its_file_with_its_methods(self):
        self.assertEqual(Log.__module__, file.__name__)
        for name in ("__init__", "tell", "unsaid", "deeds", "store_at", "idle", "changed_by"):
            self.assertIn(name, vars(Log))


def some_log_deed(chance, numbers):
    """A deed of a log with so many numbers till now."""
    word = chance.choice(["put"] * 6 + ["hire"] * 3 + ["ask", "ask", "take", "dismiss", "dismiss", "mend"])
    name = chance.choice(NAMES[:5])
    if word == "put":
        wane = some_wane(chance, caps=(10, 50, 100))
        return word, name, chance.choice([0, 0, 1]), wane, chance.randint(1, wane.cap())
    if word == "hire":
        return word, name, some_hours(chance)
    if word == "dismiss":
        return word, chance.randint(1, numbers + 3)
    if word == "mend":
        return word, chance.choice([None, None, 5, 20])
    return word, name


class ByChance(unittest.TestCase):
    def test_held_against_a_slow_log(self):
        chance = random.Random(121)
        for _ in range(40):
            made = [chance.choice([50, 100, 1000]) for _ in range(chance.randint(1, 3))]
            stirs = [chance.choice([0, 0, 1, -1]) for _ in range(10)]
            log, slow = Log(made, stirs=stirs, grain=2, fade=1), SlowLog(made, stirs, 2, 1)
            last = 0
            for _ in range(chance.choice([5, 20, 50])):
                if slow.kept and chance.random() < 0.15:
                    number = chance.choice(list(slow.kept))
                    log.unsaid(number)
                    del slow.kept[number]
                    continue
                moment, deed = chance.choice([0, 3, 3, 3, chance.randint(0, 60)]), some_log_deed(chance, last)
                last += 1
                self.assertEqual(log.tell(moment, deed), last)
                slow.kept[last] = (moment, deed)
            before = log.deeds()
            self.assertEqual(before, [(number, *kept) for number, kept in sorted(slow.kept.items())])
            for moment in (0, 2, 3, 4, 30, 61, 200):
                wanted, idle = slow.slow_at(moment)
                self.assertEqual(told_by(log.store_at(moment), NAMES), wanted.all_told(NAMES))
                self.assertEqual(log.idle(moment), idle)
            for number in chance.sample(list(slow.kept), min(5, len(slow.kept))):
                moment = chance.choice([3, 10, 60, 90])
                one, other = slow.slow_at(moment)[0].things, slow.slow_at(moment, number)[0].things
                wanted = sorted(name for name in one.keys() | other.keys() if one.get(name) != other.get(name))
                self.assertEqual(log.changed_by(number, moment), wanted)
            self.assertEqual(log.deeds(), before)

    def test_changed_by_held_against_two_logs(self):
        chance = random.Random(122)
        for _ in range(60):
            log, other = Log([100, 50], grain=2), Log([100, 50], grain=2)
            for at in range(20):
                moment, deed = chance.choice([0, 5, 10 ** 20, chance.randint(0, 99)]), some_log_deed(chance, at)
                if deed[0] != "mend":
                    log.tell(moment, deed)
                    other.tell(moment, deed)
            number = chance.choice(log.deeds())[0]
            other.unsaid(number)
            for moment in (0, 5, 50, 10 ** 20, 10 ** 21 + 7):
                one, two = log.store_at(moment), other.store_at(moment)
                wanted = [
                    name for name in sorted({*one.there(), *two.there()})
                    if (name in one.there()) != (name in two.there()) or one.thing(name) != two.thing(name)
                    or one.wane_of(name).text() != two.wane_of(name).text()
                ]
                self.assertEqual(log.changed_by(number, moment), wanted)

    def test_few_steps_however_far(self):
        chance = random.Random(123)
        for _ in range(5):
            log = Log([1000, 500, TRILLION], stirs=[1, -1] + [0] * 8, grain=2)
            while len(log.deeds()) < 60:
                deed = some_log_deed(chance, 60)
                if deed[0] != "mend":
                    log.tell(chance.randint(0, FAR), deed)
            number = chance.choice(log.deeds())[0]
            for ask in (log.store_at, log.idle, lambda moment: log.changed_by(number, moment)):
                self.assertLess(calls_of(ask, FAR)[1], 3 * 10 ** 6)


if __name__ == "__main__":
    unittest.main()
