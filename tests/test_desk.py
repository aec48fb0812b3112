import random
import unittest

from deeds import NAMES, TRILLION, done, row_of_deed, some_deed, some_wane
from things import BILLION, FAR, calls_of, strange_things
from wanehold import desk as file
from wanehold.desk import Desk
from wanehold.errors import Gone, NoAsker, NoName, NoRow, Nothing, TooFar, There, TooMany, WaneError
from wanehold.store import Store

WANE = "| 1-1 cap 90 lift 2 anew"
STILL = "| 1-0 cap 1000000000 lift 0 on"
# A row of each kind, with all that it may have.
ROWS = [
    "new s 2 1 50 40", "new t 0 1000000000 5 6 7 1000000000000 stirs 0 -1 2 3 4 5 6 7 1000000000 -1000000000",
    "copy s u", f"put s a 0 30 {WANE}", "put s b 9 10 2-0 1-1 | 1-0 9-0 cap 10 lift 0 on", "hire s a 0 3 23",
    "hire s zz 5", "ask s a", "mend s 7", "mend s none", "pass s 3", "names", "there s", "now s", "total s 0",
    "total s 1", "trace s a", "thing s a", "story s", "dismiss s 1", "take s b", "drop u", "back", "again",
]


def told(desk):
    """All that a desk tells."""
    rows = [desk.say("names")]
    for name in rows[0].split() if rows[0] != "none" else []:
        rows += [desk.say(f"{word} {name}") for word in ("there", "now", "story")]
        for place in range(4):
            try:
                rows.append(desk.say(f"total {name} {place}"))
            except NoRow:
                rows.append("no room")
        for thing in NAMES:
            rows.append(desk.say(f"trace {name} {thing}"))
            try:
                rows.append(desk.say(f"thing {name} {thing}"))
            except Gone:
                rows.append("gone")
    return rows


def said(desk, *rows):
    """The answers to rows."""
    return [desk.say(row) for row in rows]


class Asks(unittest.TestCase):
    def refused(self, error, desk, row):
        before = told(desk)
        with self.assertRaises(error) as caught:
            desk.say(row)
        self.assertIs(type(caught.exception), error)
        self.assertEqual(told(desk), before)
        return caught.exception

    def no_row(self, desk, row):
        with self.assertRaises(NoRow) as caught:
            desk.say(row)
        self.assertIs(type(caught.exception), NoRow)


class Answers(Asks):
    def test_each_row(self):
        desk = Desk()
        # a: 30, lifted to 32 at once, and at hour 3 from 29 to 31. b: 10, 5, 4, 4.
        self.assertEqual(said(desk, *ROWS), [
            "ok", "ok", "ok", "ok", "ok", "1", "2", "ok", "ok", "ok", "ok", "s t u", "a b", "3", "35", "0", "0",
            "0 0 31 0 2", "0 a put 0\n0 b put 0", "ok", "ok", "ok", "ok", "ok",
        ])

    def test_an_empty_desk(self):
        desk = Desk()
        self.assertEqual(desk.say("names"), "none")
        for row in ("back", "again"):
            self.refused(Nothing, desk, row)
        for row in ROWS[2:]:
            words = row.split()
            if len(words) > 1:
                self.assertEqual(self.refused(NoName, desk, row).name, words[1])

    def test_none(self):
        desk = Desk()
        desk.say("new s 0 1 50")
        self.assertEqual(said(desk, "there s", "story s", "now s", "total s 0", "trace s a"), ["none", "none", "0", "0", "0"])
        self.assertEqual(desk.say("names"), "s")

    def test_names_rising(self):
        desk = Desk()
        for name in ("zz", "b", "ab", "a", "none"):
            desk.say(f"new {name} 0 1 50")
        self.assertEqual(desk.say("names"), "a ab b none zz")
        for name in ("zz", "b", "ab", "a", "none"):
            desk.say(f"put none {name} 0 9 {WANE}")
        self.assertEqual(desk.say("there none"), "a ab b none zz")

    def test_thing_and_story(self):
        desk = Desk()
        said(desk, "new s 5 2 50 20", f"put s a 3 45 {WANE}", f"put s b 4 30 {WANE}", "ask s a", "pass s 1")
        self.assertEqual(said(desk, "thing s a", "there s", "trace s b"), ["0 3 46 1 1", "a", "0"])
        self.assertEqual(desk.say("story s"), "0 a put 0\n0 b put 0\n0 b moved 1\n0 b crowded 1")
        self.assertEqual(self.refused(Gone, desk, "thing s b").name, "b")
        said(desk, "pass s 46")
        self.assertEqual(said(desk, "now s", "trace s a"), ["47", "5"])
        self.assertEqual(desk.say("story s").split("\n")[-1], "47 a faded 0")

    def test_total(self):
        desk = Desk()
        said(desk, "new s 0 1 50 40", f"put s a 0 50 {WANE}", f"put s b 0 30 {WANE}", f"put s d 0 7 {WANE}")
        self.assertEqual(said(desk, "total s 0", "total s 1"), ["50", "37"])
        for place in (2, 3):
            self.refused(NoRow, desk, f"total s {place}")
            # No such room comes behind no such name.
            self.assertEqual(self.refused(NoName, desk, f"total t {place}").name, "t")
        for place in (4, 5, -1, 10, FAR):
            self.refused(NoRow, desk, f"total t {place}")

    def test_new(self):
        desk = Desk()
        said(desk, "new s 3 2 50", "new t 1000000000 1000000000 1 2 3 1000000000000 stirs 1 2 3 4 5 6 7 8 9 -1000000000")
        self.assertEqual(self.refused(There, desk, "new s 0 1 50").name, "s")
        said(desk, f"put t a 9 500000000 {STILL}")
        self.assertEqual(said(desk, "total t 3", "story t"), [
            "500000000", "0 a put 0\n0 a moved 1\n0 a moved 2\n0 a moved 3",
        ])

    def test_stirs(self):
        desk = Desk()
        said(desk, "new s 0 1 500 stirs 0 -3 0 0 0 0 0 0 0 7")
        for name, sort in (("a", 1), ("b", 1), ("c", 9), ("d", 9), ("e", 0)):
            desk.say(f"put s {name} {sort} 20 {WANE}")
        said(desk, "ask s a", "ask s c", "ask s e")
        self.assertEqual([desk.say(f"thing s {name}").split()[2] for name in "abcde"], ["22", "17", "22", "27", "22"])

    def test_copies_go_on_by_themselves(self):
        desk = Desk()
        said(desk, "new s 0 1 50", f"put s a 0 9 {WANE}", "hire s a 5", "copy s t", "take s a", "pass t 2", "pass s 9")
        self.assertEqual(said(desk, "there s", "there t", "now s", "now t"), ["none", "a", "9", "2"])
        self.assertEqual(said(desk, "hire t a 6", "hire s a 6", "dismiss s 1"), ["2", "2", "ok"])
        self.assertEqual(said(desk, "dismiss t 1"), ["ok"])
        self.assertEqual(self.refused(There, desk, "copy s t").name, "t")
        self.assertEqual(self.refused(There, desk, "copy s s").name, "s")
        self.assertEqual(self.refused(NoName, desk, "copy u t").name, "u")
        self.assertEqual(self.refused(NoName, desk, "copy u u").name, "u")

    def test_eight_names(self):
        desk = Desk()
        for name in "abcdefgh":
            desk.say(f"new {name} 0 1 50")
        self.assertEqual(self.refused(TooMany, desk, "new i 0 1 50").most, 8)
        self.assertEqual(self.refused(TooMany, desk, "copy a i").most, 8)
        self.assertEqual(self.refused(There, desk, "new a 0 1 50").name, "a")
        self.assertEqual(self.refused(There, desk, "copy a b").name, "b")
        self.assertEqual(self.refused(NoName, desk, "copy i j").name, "i")
        self.assertEqual(said(desk, "drop c", "copy a i", "names"), ["ok", "ok", "a b d e f g h i"])
        self.refused(TooMany, desk, "new c 0 1 50")
        said(desk, "drop a", "new c 0 1 50")

    def test_drop(self):
        desk = Desk()
        said(desk, "new s 0 1 50", f"put s a 0 9 {WANE}", "drop s")
        self.assertEqual(self.refused(NoName, desk, "drop s").name, "s")
        self.assertEqual(self.refused(NoName, desk, "there s").name, "s")
        said(desk, "new s 0 1 50")
        self.assertEqual(desk.say("there s"), "none")

    def test_as_the_store_refuses(self):
        desk = Desk()
        desk.say("new s 0 1 500")
        for name in "abcdefgh":
            said(desk, f"put s {name} 0 9 {WANE}", f"hire s {name} 3")
        self.assertEqual(self.refused(There, desk, f"put s a 0 9 {WANE}").name, "a")
        self.assertEqual(self.refused(TooMany, desk, f"put s zz 0 9 {WANE}").most, 8)
        self.assertEqual(self.refused(TooMany, desk, "hire s zz 3").most, 8)
        for row in ("ask s zz", "take s zz", "thing s zz"):
            self.assertEqual(self.refused(Gone, desk, row).name, "zz")
        for number in (0, 9, FAR):
            self.assertEqual(self.refused(NoAsker, desk, f"dismiss s {number}").number, number)
        desk.say("dismiss s 3")
        self.assertEqual(self.refused(NoAsker, desk, "dismiss s 3").number, 3)
        self.assertEqual(desk.say("hire s zz 3"), "9")

    def test_too_far(self):
        desk = Desk()
        said(desk, "new s 0 1 1000000000000", "put s a 0 1000000000 | 1-1 cap 1000000000 lift 0 on", "mend s 1")
        self.assertEqual(self.refused(TooFar, desk, "pass s 2001").most, 2000)
        self.assertEqual(self.refused(TooFar, desk, f"pass s {FAR}").most, 2000)
        self.assertEqual(said(desk, "now s", "pass s 2000", "now s", "mend s none", f"pass s {FAR}", "now s"), [
            "0", "ok", "2000", "ok", "ok", str(FAR + 2000),
        ])

    def test_two_know_nothing_of_one_another(self):
        one, other = Desk(), Desk()
        one.say("new s 0 1 50")
        self.assertEqual((one.say("names"), other.say("names")), ("s", "none"))
        self.refused(Nothing, other, "back")

    def test_questions_change_nothing(self):
        desk = Desk()
        for row in ROWS:
            desk.say(row)
            before = told(desk)
            self.assertEqual(told(desk), before)

    def test_few_steps_however_far(self):
        desk = Desk()
        said(desk, "new s 1 1 1000000000 500 stirs 1 -1 0 0 0 0 0 0 0 0")
        for at, name in enumerate("abcdefgh"):
            desk.say(f"put s {name} {at % 2} {10 ** at} | 1-0 1-{at} cap 1000000000 lift {at} on")
            desk.say(f"hire s {name} {at} {at + 9}")
        for turns in (10 ** 20, 10 ** 20 + 5, FAR):
            self.assertLess(calls_of(desk.say, f"pass s {turns}")[1], 3 * 10 ** 6)
        self.assertEqual(desk.say("now s"), str(2 * 10 ** 20 + 5 + FAR))

    def test_few_steps_however_long_the_story(self):
        desk = Desk()
        said(desk, "new s 0 1 50", "copy s t")
        for _ in range(3000):
            said(desk, f"put s a 0 9 {WANE}", "take s a")
        self.assertLess(calls_of(desk.say, f"put s a 0 9 {WANE}")[1], 1000)
        self.assertEqual(desk.say("story s"), "\n".join(["0 a put 0", "0 a taken 0"] * 3000 + ["0 a put 0"]))
        self.assertEqual(desk.say("story t"), "none")

    def test_defined_in_its_file_with_its_method(self):
        self.assertEqual(Desk.__module__, file.__name__)
        self.assertIn("say", vars(Desk))


class NoRows(Asks):
    def full(self):
        desk = Desk()
        said(desk, *ROWS[:14])
        return desk

    def test_a_blank_too_many_at_any_place(self):
        desk = self.full()
        before = told(desk)
        for row in ROWS:
            for at in range(len(row) + 1):
                if row[:at].endswith(" ") or row[at:].startswith(" ") or at in (0, len(row)):
                    for more in (" ", "\n", "  "):
                        self.no_row(desk, row[:at] + more + row[at:])
                else:
                    self.perhaps_another_row(desk, row[:at] + " " + row[at:])
        self.assertEqual(told(desk), before)

    def perhaps_another_row(self, desk, row):
        """Say a row that a blank within a word may have made another one of, and undo it."""
        try:
            desk.say(row)
        except WaneError:
            return
        if row.split()[0] in ("new", "copy", "drop", "put", "ask", "take", "hire", "dismiss", "mend", "pass"):
            desk.say("back")

    def test_a_word_more_or_less(self):
        desk = self.full()
        for row in ROWS:
            words = row.split(" ")
            self.no_row(desk, " ".join([*words, "zz"]))
            self.no_row(desk, " ".join([*words, "|"]))
            self.no_row(desk, " ".join(["zz", *words]))
            if words[0] not in ("new", "hire"):
                self.no_row(desk, " ".join([*words, "5"]))
            if len(words) > 1:
                for many in range(1, 3 if words[0] == "hire" else 4 if words[0] == "new" else len(words)):
                    self.no_row(desk, " ".join(words[:many]))
                self.no_row(desk, " ".join(words[1:]))
        for row in ("hire s a", "new s 0 1", "new s 0", "new s", "new", "hire s", "hire"):
            self.no_row(desk, row)

    def test_great_letters_and_other_words(self):
        desk = self.full()
        for row in ROWS:
            self.no_row(desk, row.upper())
            self.no_row(desk, row.capitalize())
            self.no_row(desk, row.replace(" ", "\n") if " " in row else row + "\n")
            self.no_row(desk, row.replace(" ", "\t") if " " in row else row + "\t")
            self.no_row(desk, row[:1] + row[0] + row[1:])
            self.no_row(desk, row.replace(" ", ",") if " " in row else row + ",")
        for row in ("", " ", "\n", "s", "pass_on s 3", "help", "names s", "back 1", "again s", "none", "-", "0"):
            self.no_row(desk, row)

    def test_numbers_written_otherwise(self):
        desk = self.full()
        before = told(desk)
        for row in (
            "new n {} 1 50", "new n 0 {} 50", "new n 0 1 {}", "new n 0 1 5 {}", "put s n {} 5 " + WANE,
            "put s n 0 {} " + WANE, "put s n 0 5 {}-0 | 1-0 cap 90 lift 2 on", "put s n 0 5 1-{} | 1-0 cap 90 lift 2 on",
            "put s n 0 5 | 1-1 cap {} lift 2 on", "put s n 0 5 | 1-1 cap 90 lift {} on", "hire s a {}", "hire s a {} 9",
            "dismiss s {}", "mend s {}", "pass s {}", "total s {}",
            "new n 0 1 50 stirs {} 0 0 0 0 0 0 0 0 0", "new n 0 1 50 stirs 0 0 0 0 0 0 0 0 0 {}",
        ):
            for number in (
                "+1", "01", "00", "-0", "-01", "--1", "1.0", "1e1", "0x1", "1_0", " 1", "1 ", "", "a", "one", "9" * 5000,
                "-" + "9" * 5000, "0" * 5000, "1" + "0" * 31, "\n", "-", "+", "1\n", "none1",
            ):
                self.no_row(desk, row.format(number))
            if "stirs" not in row:
                self.no_row(desk, row.format("-1"))
        self.assertEqual(told(desk), before)

    def test_numbers_beyond_their_kinds(self):
        desk = self.full()
        rows = []
        for row, good, wrong in (
            ("new n {} 1 50", (0, BILLION), (-1, BILLION + 1)), ("new n 0 {} 50", (1, BILLION), (0, -1, BILLION + 1)),
            ("new n 0 1 {}", (1, TRILLION), (0, -1, TRILLION + 1)),
            ("new n 0 1 5 6 7 {}", (1, TRILLION), (0, -1, TRILLION + 1)),
            ("new n 0 1 5 stirs {} 1 2 3 4 5 6 7 8 9", (-BILLION, -1, 0, BILLION), (-BILLION - 1, BILLION + 1)),
            ("put s n {} 5 " + WANE, (0, 9), (-1, 10)), ("put s n 0 {} " + WANE, (1, 90), (0, -1, 91, BILLION + 1)),
            ("put s n 0 1 | {}-0 cap 9 lift 2 on", (1, 9), (0, 10)),
            ("put s n 0 1 | 1-{} cap 9 lift 2 on", (0, BILLION), (BILLION + 1, -1)),
            ("put s n 0 1 | 1-1 cap {} lift 2 on", (1, BILLION), (0, BILLION + 1)),
            ("put s n 0 1 | 1-1 cap 9 lift {} on", (0, BILLION), (-1, BILLION + 1)),
            ("hire s a {}", (0, 23), (-1, 24)), ("mend s {}", (1, BILLION, "none"), (0, -1, BILLION + 1, "None")),
            ("pass s {}", (0, 1000, FAR), (-1, FAR + 1)), ("total s {}", (0, 1), (-1, 4)),
        ):
            rows += [(row.format(number), True) for number in good]
            rows += [(row.format(number), False) for number in wrong]
        for row, fits in rows:
            if fits:
                desk.say(row)
                if not row.startswith("total"):
                    desk.say("back")
            else:
                self.no_row(desk, row)
                # Ahead of a name that isn't kept.
                self.no_row(desk, row.replace(" s ", " x ", 1))
        for number, error in ((0, NoAsker), (FAR, NoAsker), (-1, NoRow), (FAR + 1, NoRow)):
            self.refused(error, desk, f"dismiss s {number}")

    def test_rooms_stirs_and_hours(self):
        desk = self.full()
        for row in (
            "new n 0 1 1 2 3 4 5", "new n 0 1 stirs 0 0 0 0 0 0 0 0 0 0", "new n 0 1 5 stirs", "new n 0 1 5 stirs 0",
            "new n 0 1 5 stirs 0 0 0 0 0 0 0 0 0", "new n 0 1 5 stirs 0 0 0 0 0 0 0 0 0 0 0",
            "new n 0 1 5 stirs 0 0 0 0 0 0 0 0 0 0 stirs", "new n 0 1 5 stirs stirs 0 0 0 0 0 0 0 0 0 0",
            "new n 0 1 5 stir 0 0 0 0 0 0 0 0 0 0", "new n 0 1 -5", "new n 0 stirs 1 5", "hire s a 1 1", "hire s a 2 1",
            "hire s a 0 1 2 2", "hire s a 23 0", "hire s a " + " ".join(map(str, [*range(24), 24])),
            "new n 0 1 1 2 3 4 5 stirs 0 0 0 0 0 0 0 0 0 0",
        ):
            self.no_row(desk, row)
        said(desk, "new n 0 1 1 2 3 4 stirs 0 0 0 0 0 0 0 0 0 0", "hire n a " + " ".join(map(str, range(24))))

    def test_names_written_otherwise(self):
        desk = self.full()
        for name in ("", "A", "aB", "waneholds", "a1", "a-b", "1", "|", "a.", "-", "aa\n"):
            for row in (
                "new {} 0 1 50", "copy {} n", "copy s {}", "drop {}", "put {} n 0 5 " + WANE, "put s {} 0 5 " + WANE,
                "ask {} a", "ask s {}", "take {} a", "take s {}", "hire {} a 3", "hire s {} 3", "dismiss {} 1",
                "mend {} 5", "pass {} 5", "there {}", "now {}", "total {} 0", "trace {} a", "trace s {}", "thing {} a",
                "thing s {}", "story {}",
            ):
                self.no_row(desk, row.format(name))

    def test_wanes_written_otherwise(self):
        desk = self.full()
        for wane in (
            "", "|", "| cap 90 lift 2 on", "| 1-1 1-1 1-1 1-1 1-1 cap 90 lift 2 on", "1-1 cap 90 lift 2 on",
            "| 1-1 cap 90 lift 2", "| 1-1 cap 90 lift 2 off", "| 1-1 cap 90 lift 2 Anew", "| 1-1 lift 2 cap 90 anew",
            "| 1-1 | cap 90 lift 2 on", "| 1 1 cap 90 lift 2 on", "| 1-1-1 cap 90 lift 2 on", "| 1-+1 cap 90 lift 2 on",
            WANE + " on", WANE + " ", " " + WANE, WANE.replace(" ", "  "), "1-1 " * 25 + WANE,
        ):
            self.no_row(desk, f"put s n 0 5 {wane}")
            self.no_row(desk, f"put x n 0 5 {wane}")
        desk.say("put s n 0 5 " + "1-1 " * 24 + "| " + "1-1 " * 24 + "cap 90 lift 2 on")

    def test_whatever_is_no_text(self):
        desk = self.full()
        for thing in (0, 1, 10 ** 5000, [], ["names"], (), ("names",), {"names": 1}, *strange_things()):
            self.no_row(desk, thing)

    def test_no_name_behind_no_row_and_ahead_of_the_store(self):
        desk = self.full()
        for row in ("ask x zz", "take x zz", "dismiss x 9", f"put x a 0 9 {WANE}", "thing x zz", "copy x s", "pass x 5"):
            self.assertEqual(self.refused(NoName, desk, row).name, "x")
        for row in ("ask x", "pass x -1", "dismiss x -1", "put x a 0 91 " + WANE, "copy x S", "thing x"):
            self.refused(NoRow, desk, row)


class BackAndAgain(Asks):
    def test_by_hand(self):
        desk = Desk()
        said(desk, "new s 0 1 50", f"put s a 0 9 {WANE}", "pass s 3")
        self.assertEqual(said(desk, "back", "now s", "there s", "back", "there s", "back", "names"), [
            "ok", "0", "a", "ok", "none", "ok", "none",
        ])
        self.refused(Nothing, desk, "back")
        self.assertEqual(said(desk, "again", "again", "again", "now s", "thing s a"), ["ok"] * 3 + ["3", "0 0 6 3 0"])
        self.refused(Nothing, desk, "again")

    def test_numbers_of_askers(self):
        desk = Desk()
        said(desk, "new s 0 1 50")
        self.assertEqual(said(desk, "hire s a 1", "hire s b 2", "back", "hire s c 3", "dismiss s 2", "hire s d 4"), [
            "1", "2", "ok", "2", "ok", "3",
        ])
        self.assertEqual(said(desk, "back", "again", "hire s e 5"), ["ok", "ok", "4"])

    def test_what_was_dropped_comes_back_whole(self):
        desk = Desk()
        said(desk, *ROWS[:11])
        before = told(desk)
        said(desk, "drop s", "new s 0 1 5", "drop s")
        said(desk, "back", "back", "back")
        self.assertEqual(told(desk), before)
        said(desk, "pass s 5", "back")
        self.assertEqual(told(desk), before)

    def test_copies_stay(self):
        desk = Desk()
        said(desk, "new s 0 1 50", f"put s a 0 9 {WANE}", "copy s t", "take s a", "back", "take t a")
        self.assertEqual(said(desk, "there s", "there t", "back", "there t"), ["a", "none", "ok", "a"])
        said(desk, "back")
        self.assertEqual(desk.say("names"), "s")

    def test_a_deed_that_changes_nothing_stands_too(self):
        desk = Desk()
        said(desk, "new s 0 1 50", "mend s none", "pass s 0")
        self.assertEqual(said(desk, "back", "names", "back", "names", "back", "names"), ["ok", "s", "ok", "s", "ok", "none"])
        self.refused(Nothing, desk, "back")

    def test_refused_rows_and_questions_are_no_deeds(self):
        desk = Desk()
        said(desk, "new s 0 1 50", f"put s a 0 9 {WANE}", "pass s 3", "back")
        for error, row in (
            (Gone, "ask s b"), (There, "new s 0 1 50"), (NoName, "drop t"), (NoRow, "pass s"), (There, "copy s s"),
            (NoAsker, "dismiss s 1"), (NoRow, "total s 1"), (Gone, "thing s b"), (There, f"put s a 0 9 {WANE}"),
        ):
            self.refused(error, desk, row)
        self.assertEqual(said(desk, "names", "again", "now s"), ["s", "ok", "3"])
        self.assertEqual(said(desk, "back", "back", "there s"), ["ok", "ok", "none"])

    def test_behind_a_new_deed_none_is_left(self):
        desk = Desk()
        said(desk, "new s 0 1 50", "pass s 3", "pass s 4", "back", "pass s 5")
        self.refused(Nothing, desk, "again")
        self.assertEqual(said(desk, "now s", "back", "now s", "again", "now s"), ["8", "ok", "3", "ok", "8"])

    def test_over_all_kinds_of_deeds(self):
        desk = Desk()
        states = [told(desk)]
        for row in ROWS[:-2]:
            before = told(desk)
            desk.say(row)
            if row.split()[0] in ("names", "there", "now", "total", "trace", "thing", "story"):
                self.assertEqual(told(desk), before)
            else:
                states.append(told(desk))
        for _ in range(3):
            for at in range(len(states) - 1, 0, -1):
                self.assertEqual(told(desk), states[at])
                desk.say("back")
            self.assertEqual(told(desk), states[0])
            self.refused(Nothing, desk, "back")
            for at in range(1, len(states)):
                desk.say("again")
                self.assertEqual(told(desk), states[at])
            self.refused(Nothing, desk, "again")

    def test_over_many_deeds(self):
        chance = random.Random(131)
        desk = Desk()
        states = [told(desk)]
        ahead = []
        backs = agains = 0
        for _ in range(1500):
            row = chance.choice([some_row(chance)] * 7 + ["back", "again"])
            try:
                answer = desk.say(row)
            except Nothing:
                self.assertEqual(len(states) if row == "back" else len(ahead) + 1, 1)
                continue
            except WaneError:
                self.assertEqual(told(desk), states[-1])
                continue
            if row == "back":
                ahead.append(states.pop())
                backs += 1
            elif row == "again":
                states.append(ahead.pop())
                agains += 1
            else:
                ahead = []
                states.append(told(desk))
                self.assertTrue(answer == "ok" or row.startswith("hire"))
            self.assertEqual(told(desk), states[-1])
        self.assertTrue(len(states) > 60 and backs > 60 and agains > 20)
        while len(states) > 1:
            states.pop()
            desk.say("back")
            self.assertEqual(told(desk), states[-1])
        self.refused(Nothing, desk, "back")


def some_row(chance):
    """A row of a deed, perhaps refused."""
    name = chance.choice("abc")
    word = chance.choice(["new", "copy", "drop", *["deed"] * 12])
    if word == "new":
        return f"new {name} {chance.choice([0, 3])} 1 {chance.choice(['50', '100 20', '10 10 1000'])}"
    if word == "copy":
        return f"copy {name} {chance.choice('abc')}"
    if word == "drop":
        return f"drop {name}" if chance.random() < 0.3 else f"pass {name} 2"
    return row_of_deed(name, *some_deed(chance))


class ByChance(unittest.TestCase):
    def test_held_against_stores(self):
        chance = random.Random(132)
        for _ in range(40):
            rooms = [chance.choice([50, 200, 3000]) for _ in range(chance.randint(1, 4))]
            stirs = [chance.choice([0, 0, 1, -1, 10]) for _ in range(10)]
            store, desk = Store(rooms, stirs=stirs, grain=3, fade=2), Desk()
            desk.say("new s 3 2 " + " ".join(map(str, rooms)) + " stirs " + " ".join(map(str, stirs)))
            for _ in range(30):
                word, *given = some_deed(chance)
                answer = done(store, word, *given)
                try:
                    answered = desk.say(row_of_deed("s", word, *given))
                except WaneError as refusal:
                    answered = type(refusal).__name__
                self.assertEqual(answered, "ok" if answer is None else str(answer))
                self.assertEqual(desk.say("there s"), " ".join(store.there()) or "none")
                for name in NAMES:
                    self.assertEqual(desk.say(f"trace s {name}"), str(store.trace(name)))
                for name in store.there():
                    self.assertEqual(desk.say(f"thing s {name}"), " ".join(map(str, store.thing(name))))
                story = "\n".join(f"{moment} {name} {what} {room}" for moment, name, what, room in store.story())
                self.assertEqual(desk.say("story s"), story or "none")
                self.assertEqual(desk.say("now s"), str(store.now()))
                for place in range(len(rooms)):
                    self.assertEqual(desk.say(f"total s {place}"), str(store.total(place)))

    def test_wanes_of_all_kinds(self):
        chance = random.Random(133)
        for _ in range(50):
            desk, store = Desk(), Store([TRILLION])
            wane = some_wane(chance)
            strength = chance.randint(1, wane.cap())
            store.put("a", 4, wane, strength)
            desk.say(f"new s 0 1 {TRILLION}")
            desk.say(f"put s a 4 {strength} {wane.text()}")
            for turns in (1, 5, 30, 10 ** 20):
                store.pass_on(turns)
                desk.say(f"pass s {turns}")
                self.assertEqual(desk.say("there s"), " ".join(store.there()) or "none")
                if store.there():
                    self.assertEqual(desk.say("thing s a"), " ".join(map(str, store.thing("a"))))


if __name__ == "__main__":
    unittest.main()
