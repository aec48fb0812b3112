import random
import unittest

from deeds import NAMES, some_wane, still
from slow_store import SlowStore, told_by
from things import BILLION, FAR, calls_of, not_names, strange_things, wrong_place
from wanehold import keeping
from wanehold.errors import Busy, Gone, TooMany
from wanehold.keeping import keep
from wanehold.store import Store
from wanehold.wanes import Wane

ALWAYS = tuple(range(24))


def losing(cap=9, lift=2, anew=False, take=1, head=()):
    """A wane that takes so much each turn, behind its head."""
    return Wane(list(head), [(1, take)], cap=cap, lift=lift, anew=anew)


def filled(rooms, things, stirs=None):
    """A store with things, tuples (name, sort, wane, strength)."""
    store = Store(rooms, stirs=stirs)
    for thing in things:
        store.put(*thing)
    return store


def slow_in(store, state):
    """A slow store in this state."""
    slow = SlowStore(store.rooms(), store.stirs())
    for name, room, strength, phase in state:
        wane = store.wane_of(name)
        slow.things[name] = [room, store.thing(name)[1], strength, phase, 0, wane]
    return slow


def slow_moves(store, state, names):
    """The moves that don't lose, a dict: the states behind them by their moves."""
    faded = slow_in(store, state)
    # Nothing crowds here: what is gone has faded.
    faded.room_sizes = [10 ** 20] * len(faded.room_sizes)
    faded.turn()
    behind = {}
    for move in [None, *faded.things]:
        slow = slow_in(store, state)
        if move is not None:
            slow.plans[1] = (move, ALWAYS)
        slow.turn()
        if all(name in slow.things for name in names):
            behind[move] = slow.state()
    return behind


def slow_game(store, names):
    """All states that come, a dict of what slow_moves tells."""
    game = {}
    new = [store.state()]
    while new:
        state = new.pop()
        if state not in game:
            game[state] = slow_moves(store, state, names)
            new += game[state].values()
    return game


def slow_ends(game):
    """The lost states with their numbers."""
    ends = {}
    for number in range(1, len(game) + 1):
        more = [state for state in game if state not in ends and all(one in ends for one in game[state].values())]
        for state in more:
            ends[state] = 1 + max((ends[one] for one in game[state].values()), default=0)
        if not more:
            break
    return ends


def slow_least(game, start, long):
    """The fewest askings of so many moves that lose nowhere, from start on, and stay among what keeps."""
    ends = slow_ends(game)
    fewest = {start: 0}
    for _ in range(long):
        further = {}
        for state, many in fewest.items():
            for move, one in game[state].items():
                if one not in ends:
                    asked = many + (move is not None)
                    further[one] = min(further.get(one, asked), asked)
        fewest = further
    return min(fewest.values())


def circles(game, ends):
    """The tuples (askings, turns) of all circles that go through no state twice, by going all ways."""
    states = [state for state in game if state not in ends]
    found = set()

    def go(first, state, seen, asked):
        for move, one in game[state].items():
            many = asked + (move is not None)
            if one == first:
                found.add((many, len(seen)))
            elif one not in ends and one not in seen and states.index(one) > states.index(first):
                go(first, one, [*seen, one], many)

    for state in states:
        go(state, state, [state], 0)
    return found


def asked_in(moves):
    return sum(move is not None for move in moves)


class Looks(unittest.TestCase):
    def look_at(self, store, names, most=400):
        """Hold what keep tells against the slow game; tell it, and the game."""
        before = told_by(store, NAMES)
        told = keep(store, names, most=most)
        self.assertEqual(told_by(store, NAMES), before)
        self.assertEqual(keep(store, names, most=most), told)
        game = slow_game(store, names)
        ends = slow_ends(game)
        paper = told[-1]
        self.assertTrue(type(told) is tuple and type(paper) is list)
        self.assertTrue(all(type(row) is tuple and len(row) == 3 for row in paper))
        self.assertEqual(sorted(row[0] for row in paper), sorted(game))
        self.assertEqual({state: number for state, word, number in paper if word == "lost"}, ends)
        self.assertTrue(all(word in ("lost", "keeps") and type(number) is int for _, word, number in paper))
        if store.state() in ends:
            self.assertEqual((told[0], len(told)), ("lost", 2))
            self.assertEqual(len(ends), len(game))
        else:
            self.look_at_kept(store, names, told, game)
        return told, game

    def look_at_kept(self, store, names, told, game):
        word, lead, circle, paper = told
        self.assertEqual(word, "kept")
        self.assertTrue(type(lead) is list and type(circle) is list and len(circle) >= 1)
        asked, turns = asked_in(circle), len(circle)
        numbers = {state: number for state, what, number in paper if what == "keeps"}
        for state, number in numbers.items():
            ahead = [(move, one) for move, one in game[state].items() if one in numbers]
            self.assertTrue(ahead)
            for move, one in ahead:
                self.assertLessEqual(numbers[one], number - asked + (0 if move is None else turns))
        slow = slow_in(store, store.state())
        self.play(slow, lead, names)
        first = slow.state()
        for _ in range(2):
            self.play(slow, circle, names)
            self.assertEqual(slow.state(), first)

    def play(self, slow, moves, names):
        for move in moves:
            slow.plans = {} if move is None else {1: (move, ALWAYS)}
            before = slow.state()
            if move is not None:
                self.assertIn(move, [row[0] for row in before])
            slow.turn()
            self.assertTrue(all(name in slow.things for name in names))


class ByHand(Looks):
    def test_nothing_is_there(self):
        self.assertEqual(keep(Store([5]), []), ("kept", [], [None], [((), "keeps", 0)]))

    def test_none_to_keep(self):
        store = filled([50], [("a", 0, losing(), 2)])
        told, game = self.look_at(store, [])
        self.assertEqual(told[0], "kept")
        self.assertEqual(asked_in(told[2]), 0)
        self.assertIn((), game)

    def test_what_never_wanes_is_never_asked_for(self):
        store = filled([50], [("a", 0, still(cap=9), 4)])
        told, _ = self.look_at(store, ["a"])
        self.assertEqual(told, ("kept", [], [None], [((("a", 0, 4, 0),), "keeps", 0)]))

    def test_one_alone(self):
        # A lift of 2 against 1 a turn: each second turn asks.
        store = filled([50], [("a", 0, losing(cap=4), 3)])
        told, _ = self.look_at(store, ["a"])
        self.assertEqual(2 * asked_in(told[2]), len(told[2]))
        # With a cap of 2 no turn asks for more than the 1 that it took.
        store = filled([50], [("a", 0, losing(cap=2), 2)])
        told, _ = self.look_at(store, ["a"])
        self.assertEqual(asked_in(told[2]), len(told[2]))

    def test_lost_by_hand(self):
        # Lifts of 1 outlast 1 a turn of one thing, not of two.
        wane = losing(cap=3, lift=1)
        told, _ = self.look_at(filled([50], [("a", 0, wane, 3)]), ["a"])
        self.assertEqual(told[0], "kept")
        store = filled([50], [("a", 0, wane, 3), ("b", 0, wane, 3)])
        told, game = self.look_at(store, ["a", "b"])
        self.assertEqual(told[0], "lost")
        # They have 6, lose 2, are lifted by 1, and need 2: at last 3 turns are left.
        numbers = {state: number for state, _, number in told[1]}
        self.assertEqual(numbers[store.state()], 4)
        # One of both can be kept.
        for name in "ab":
            told, _ = self.look_at(store, [name])
            self.assertEqual(told[0], "kept")

    def test_gone_in_the_next_turn(self):
        store = filled([50], [("a", 0, losing(), 1)])
        self.assertEqual(keep(store, ["a"]), ("lost", [((("a", 0, 1, 0),), "lost", 1)]))
        # It is gone ahead of the asking.
        self.assertEqual(keep(store, ["a"], most=1), ("lost", [((("a", 0, 1, 0),), "lost", 1)]))

    def test_lead_and_circle_from_far_above(self):
        store = filled([50], [("a", 0, losing(cap=30, lift=3), 30)])
        told, _ = self.look_at(store, ["a"])
        self.assertEqual(3 * asked_in(told[2]), len(told[2]))

    def test_anew_with_a_head(self):
        # Behind an asking come three turns that take nothing; the fourth one takes all.
        wane = Wane([(1, 0)] * 3, [(1, 9)], cap=9, lift=0, anew=True)
        store = filled([50], [("a", 0, wane, 9)])
        told, _ = self.look_at(store, ["a"])
        self.assertEqual(3 * asked_in(told[2]), len(told[2]))
        # Where the steps don't begin anew nothing helps.
        wane = Wane([(1, 0)] * 3, [(1, 9)], cap=9, lift=9, anew=False)
        store = filled([50], [("a", 0, wane, 9)])
        told, _ = self.look_at(store, ["a"])
        self.assertEqual({state[0][3]: number for state, _, number in told[1]}, {0: 4, 1: 3, 2: 2, 3: 1})

    def test_a_stir_keeps_the_neighbour(self):
        wane = losing(cap=6, lift=2)
        things = [("a", 3, wane, 3), ("b", 3, wane, 3)]
        stirs = [0] * 3 + [2] + [0] * 6
        told, _ = self.look_at(filled([50], things, stirs), ["a", "b"])
        self.assertEqual(2 * asked_in(told[2]), len(told[2]))
        # Without a stir each second turn asks for each.
        told, _ = self.look_at(filled([50], things), ["a", "b"])
        self.assertEqual(asked_in(told[2]), len(told[2]))
        # A stir below nought presses the one by asking for the other.
        told, _ = self.look_at(filled([50], things, [0] * 3 + [-1] + [0] * 6), ["a", "b"])
        self.assertEqual(told[0], "lost")

    def test_crowding_loses(self):
        # Both stay as they are; asking for one crowds the other out.
        wane = still(cap=9, lift=3)
        store = filled([10], [("a", 0, wane, 5), ("b", 0, wane, 5)])
        told, game = self.look_at(store, ["a", "b"])
        self.assertEqual((told[2], len(game)), ([None], 1))
        # With a second room it moves on.
        store = filled([10, 5], [("a", 0, wane, 5), ("b", 0, wane, 5)])
        told, game = self.look_at(store, ["a", "b"])
        self.assertEqual(asked_in(told[2]), 0)
        self.assertGreater(len(game), 1)

    def test_what_moved_on_stays_there(self):
        # Asking for a moves b on, and b stays there when a has waned.
        store = filled([10, 5], [("a", 0, losing(cap=9, lift=4), 5), ("b", 0, still(cap=5), 5)])
        told, game = self.look_at(store, ["a", "b"])
        self.assertEqual(4 * asked_in(told[2]), len(told[2]))
        states = [row for row in game if row[1][1:3] == (1, 5)]
        self.assertEqual(sorted(row[0][2] for row in states), list(range(1, 10)))
        # A last room that holds less lets it go.
        store = filled([10, 4], [("a", 0, losing(cap=9, lift=4), 5), ("b", 0, still(cap=5), 5)])
        self.assertEqual(self.look_at(store, ["b"])[0][0], "kept")
        self.assertNotEqual(self.look_at(store, ["a", "b"])[0], told)

    def test_from_room_to_room(self):
        chance = random.Random(60)
        moved = 0
        while moved < 15:
            store = Store([chance.randint(4, 9) for _ in range(chance.choice([2, 3]))])
            for name in "ab":
                wane = losing(chance.randint(3, 6), chance.randint(1, 4), chance.random() < 0.5, chance.choice([0, 1, 1]))
                store.put(name, 0, wane, chance.randint(2, wane.cap()))
            try:
                _, game = self.look_at(store, store.there()[:chance.choice([0, 1, 2])])
            except TooMany:
                continue
            rooms = {tuple(row[1] for row in state) for state in game if len(state) == 2}
            moved += len(rooms) > 2

    def test_others_may_go_and_may_be_asked_for(self):
        # b alone lifts a, by its stir, as a has no lift of its own.
        things = [("a", 0, losing(cap=5, lift=0), 3), ("b", 0, losing(cap=5, lift=2), 3)]
        told, _ = self.look_at(filled([50], things, [3] + [0] * 9), ["a"])
        self.assertEqual(told[0], "kept")
        self.assertIn("b", told[2])
        told, _ = self.look_at(filled([50], things), ["a"])
        self.assertEqual(told[0], "lost")

    def test_one_told_twice_is_kept_once(self):
        store = filled([50], [("a", 0, losing(cap=4), 3), ("b", 0, losing(cap=3), 3)])
        self.assertEqual(keep(store, ["a", "a", "b", "a"]), keep(store, ["a", "b"]))

    def test_an_asking_that_changes_nothing_is_none(self):
        store = filled([50], [("a", 0, still(cap=5), 5)])
        self.assertEqual(keep(store, ["a"])[1:3], ([], [None]))


class Refused(unittest.TestCase):
    def refused(self, error, store, names, **named):
        before = told_by(store, NAMES)
        with self.assertRaises(error) as caught:
            keep(store, names, **named)
        self.assertIs(type(caught.exception), error)
        self.assertEqual(told_by(store, NAMES), before)
        return caught.exception

    def test_busy_ahead_of_all_others(self):
        store = filled([50], [("a", 0, losing(cap=8), 8)])
        store.hire("zz", (3,))
        self.refused(Busy, store, ["zz"], most=1)
        store.mend(5)
        self.refused(Busy, store, ["zz"], most=1)
        store.dismiss(1)
        self.refused(Busy, store, ["zz"], most=1)
        self.refused(Busy, store, [])
        store.mend(None)
        self.refused(Gone, store, ["zz"], most=1)
        self.assertEqual(keep(store, ["a"])[0], "kept")

    def test_gone_of_the_first_in_the_list(self):
        store = filled([50], [("b", 0, losing(cap=8), 8)])
        for names, name in ((["zz"], "zz"), (["b", "zz", "a"], "zz"), (["a", "zz", "a"], "a"), (["c", "b"], "c")):
            self.assertEqual(self.refused(Gone, store, names, most=1).name, name)

    def test_at_just_as_many_states_and_at_one_more(self):
        chance = random.Random(61)
        for _ in range(30):
            wane = losing(cap=chance.randint(2, 12), lift=chance.randint(0, 3), anew=chance.random() < 0.5)
            store = filled([50], [("a", 0, wane, wane.cap()), ("b", 0, losing(cap=3), 3)])
            names = chance.choice([[], ["a"], ["b"], ["a", "b"]])
            many = len(slow_game(store, names))
            if many == 1 or many > 400:
                continue
            self.assertEqual(len(keep(store, names, most=many)[-1]), many)
            self.assertEqual(self.refused(TooMany, store, names, most=many - 1).most, many - 1)
            self.assertEqual(self.refused(TooMany, store, names, most=1).most, 1)

    def test_a_hundred_and_twenty_are_left_out(self):
        for many in (119, 120, 121, 400, 401):
            # From many down to 1.
            store = filled([BILLION], [("a", 0, losing(cap=many, lift=0), many)])
            self.assertEqual(len(slow_game(store, ["a"])), many)
            if many > 120:
                self.assertEqual(self.refused(TooMany, store, ["a"]).most, 120)
            else:
                self.assertEqual(len(keep(store, ["a"])[-1]), many)
            if many > 400:
                self.assertEqual(self.refused(TooMany, store, ["a"], most=400).most, 400)
            else:
                self.assertEqual(keep(store, ["a"], most=400)[0], "lost")

    def test_wrong(self):
        store = filled([50], [("a", 0, losing(), 2)])
        store.mend(5)
        for thing in (0, 1, "", "a", [], (), [store], Store, *strange_things()):
            self.assertEqual(wrong_place(self, keep, thing, 5, most=0), 0)
        for thing in (0, "", "a", (), ("a",), *strange_things(), *[[name] for name in not_names()], ["a", 0]):
            self.assertEqual(wrong_place(self, keep, store, thing, most=0), 1)
        for most in (0, -1, 401, FAR, "1", [1], *strange_things()):
            self.assertEqual(wrong_place(self, keep, store, ["zz"], most=most), 2)

    def test_behind_the_star(self):
        with self.assertRaises(TypeError):
            keep(Store([5]), [], 120)

    def test_most_at_its_bounds(self):
        store = filled([50], [("a", 0, still(cap=5), 5)])
        for most in (1, 2, 120, 399, 400):
            self.assertEqual(keep(store, ["a"], most=most)[2], [None])

    def test_lists_handed_in_and_told(self):
        store = filled([50], [("a", 0, losing(cap=4), 3)])
        names = ["a"]
        told = keep(store, names)
        self.assertEqual(names, ["a"])
        copy = keep(store, names)
        for part in told[1:]:
            part.append(5)
        self.assertEqual(keep(store, names), copy)

    def test_defined_in_its_file(self):
        self.assertEqual((keep.__module__, keeping.__name__), ("wanehold.keeping", "wanehold.keeping"))


def small_wane(chance):
    cap = chance.randint(1, 6)
    steps = [(chance.choice([1, 1, 1, 2]), chance.choice([0, 0, 1, 1, 2])) for _ in range(6)]
    return Wane(
        steps[:chance.choice([0, 0, 1, 2])], steps[2:2 + chance.choice([1, 1, 2, 3])], cap=cap,
        lift=chance.choice([0, 1, 2, 3, cap]), anew=chance.random() < 0.5,
    )


def small_store(chance, most=3):
    rooms = [chance.choice([3, 6, 10, 50]) for _ in range(chance.choice([1, 1, 2, 3]))]
    stirs = [chance.choice([0, 0, 1, -1, 2]) for _ in range(10)]
    store = Store(rooms, stirs=stirs)
    for name in chance.sample(["a", "b", "ab", "c"], chance.randint(1, most)):
        wane = small_wane(chance)
        store.put(name, chance.choice([0, 0, 1]), wane, chance.randint(1, wane.cap()))
    for _ in range(chance.choice([0, 0, 1, 3])):
        store.pass_on(1)
        if store.there():
            store.ask(chance.choice(store.there()))
    return store


class ByChance(Looks):
    def test_small_games(self):
        chance = random.Random(62)
        words = {"kept": 0, "lost": 0}
        walked = circled = 0
        while walked < 60:
            store = small_store(chance)
            names = [name for name in store.there() if chance.random() < 0.7]
            try:
                told, game = self.look_at(store, names)
            except TooMany:
                continue
            walked += 1
            words[told[0]] += 1
            if told[0] == "lost":
                continue
            asked, turns = asked_in(told[2]), len(told[2])
            many = len(game)
            long = 300
            least = slow_least(game, store.state(), long)
            # A way takes no more than many moves out of circles.
            self.assertGreaterEqual(least * turns, asked * (long - many))
            self.assertLessEqual(least * turns, asked * (long + many) + many * turns)
            if many <= 14:
                circled += 1
                shares = circles(game, slow_ends(game))
                self.assertTrue(all(asked * other >= 0 for _, other in shares))
                self.assertTrue(all(asked * other <= one * turns for one, other in shares))
                self.assertTrue(any(asked * other == one * turns for one, other in shares))
        self.assertGreater(min(words.values()), 10)
        self.assertGreater(circled, 15)

    def test_great_games(self):
        chance = random.Random(63)
        told = []
        while len(told) < 12:
            wanes = [losing(chance.randint(5, 8), chance.randint(3, 5), chance.random() < 0.5) for _ in range(2)]
            store = filled([100, 100], [(name, 0, wane, wane.cap()) for name, wane in zip("ab", wanes)])
            store.put("c", 1, some_wane(chance, caps=(3,)), 2)
            try:
                row, game = self.look_at(store, ["a", "b"])
            except TooMany:
                continue
            told.append((row[0], len(game)))
        self.assertTrue(any(many > 100 for _, many in told))

    def test_the_store_after_a_far_way(self):
        store = filled([50], [("a", 0, Wane([(1, 0)], [(1, 0)] * 3, cap=4, lift=2, anew=False), 3)])
        store.pass_on(FAR)
        told, _ = self.look_at(store, ["a"])
        self.assertEqual(asked_in(told[2]), 0)

    def test_few_steps(self):
        wane = losing(cap=14, lift=5)
        store = filled([100], [("a", 0, wane, 14), ("b", 0, wane, 14)])
        told, many = calls_of(keep, store, ["a", "b"], most=400)
        self.assertEqual(told[0], "kept")
        self.assertEqual(5 * asked_in(told[2]), 2 * len(told[2]))
        self.assertLess(many, 3 * 10 ** 6)


if __name__ == "__main__":
    unittest.main()
