import unittest

from things import shown, strange_things, wrong_place
from wanehold import wanes
from wanehold.errors import NoText
from wanehold.wanes import Wane, read_wane

TAILS = (1, 2, 3, 4, 6, 8, 12, 24)
FAR = 10 ** 30
BILLION = 10 ** 9


def some_steps(many, shift=0):
    """So many steps, each unlike the one before it."""
    return [(1 + (k + shift) * 5 // 2 % 9, (k + shift) * 7 % 13) for k in range(many)]


def other_things():
    """Strange things, numbers, texts, tuples and lists that are no steps."""
    return [*strange_things(), 0, 1, -1, "", "1-0", "| 1-0", (), (1, 0), ((1, 0),), [1], [(1, 0), None], [[1, 0]]]


class Told(unittest.TestCase):
    def test_each_length_as_handed_in(self):
        for lead in range(25):
            for many in TAILS:
                head, tail = some_steps(lead), some_steps(many, 40)
                wane = Wane(head, tail, cap=lead + many, lift=lead, anew=many > 3)
                self.assertEqual((wane.head(), wane.tail()), (some_steps(lead), some_steps(many, 40)))
                self.assertEqual((wane.cap(), wane.lift(), wane.is_anew()), (lead + many, lead, many > 3))
                self.assertIs(type(wane.head()), list)
                self.assertIs(type(wane.tail()), list)

    def test_bounds(self):
        for cap, lift in ((1, 0), (BILLION, BILLION), (1, BILLION), (BILLION, 0)):
            wane = Wane([(1, 0)], [(9, BILLION)], cap=cap, lift=lift)
            self.assertEqual((wane.cap(), wane.lift()), (cap, lift))
            self.assertEqual((wane.head(), wane.tail()), ([(1, 0)], [(9, BILLION)]))

    def test_anew_left_out(self):
        self.assertIs(Wane([], [(1, 0)], cap=1, lift=0).is_anew(), True)
        self.assertIs(Wane([], [(1, 0)], cap=1, lift=0, anew=True).is_anew(), True)
        self.assertIs(Wane([], [(1, 0)], cap=1, lift=0, anew=False).is_anew(), False)

    def test_lists_handed_in_stay_and_may_change_later_on(self):
        head, tail = [(1, 1), (2, 2)], [(3, 3), (4, 4)]
        wane = Wane(head, tail, cap=9, lift=1)
        self.assertEqual((head, tail), ([(1, 1), (2, 2)], [(3, 3), (4, 4)]))
        head.append((5, 5))
        tail[0] = (6, 6)
        tail.clear()
        self.assertEqual((wane.head(), wane.tail()), ([(1, 1), (2, 2)], [(3, 3), (4, 4)]))
        self.assertEqual(wane.step(3), (3, 3))
        self.assertEqual(wane.text(), "1-1 2-2 | 3-3 4-4 cap 9 lift 1 anew")

    def test_lists_told_are_new_ones(self):
        wane = Wane([(1, 1), (2, 2)], [(3, 3)], cap=9, lift=1)
        self.assertIsNot(wane.head(), wane.head())
        self.assertIsNot(wane.tail(), wane.tail())
        wane.head().clear()
        wane.head()[0] = None
        wane.tail().append((9, 9))
        self.assertEqual((wane.head(), wane.tail()), ([(1, 1), (2, 2)], [(3, 3)]))
        self.assertEqual([wane.step(k) for k in (1, 2, 3, 4)], [(1, 1), (2, 2), (3, 3), (3, 3)])

    def test_one_list_as_head_and_tail(self):
        steps = [(1, 1), (2, 0)]
        wane = Wane(steps, steps, cap=9, lift=1)
        wane.head().append((3, 3))
        steps.append((4, 4))
        self.assertEqual((wane.head(), wane.tail()), ([(1, 1), (2, 0)], [(1, 1), (2, 0)]))

    def test_two_wanes_know_nothing_of_one_another(self):
        one = Wane([(1, 1)], [(2, 2)], cap=5, lift=1)
        other = Wane([], [(3, 3)], cap=6, lift=2, anew=False)
        self.assertEqual(one.text(), "1-1 | 2-2 cap 5 lift 1 anew")
        self.assertEqual(other.text(), "| 3-3 cap 6 lift 2 on")

    def test_defined_in_its_file_with_its_methods(self):
        self.assertEqual((Wane.__module__, read_wane.__module__), ("wanehold.wanes", "wanehold.wanes"))
        for word in ("__init__", "head", "tail", "cap", "lift", "is_anew", "step", "phase", "text"):
            self.assertIn(word, vars(Wane))


class Steps(unittest.TestCase):
    def test_by_hand(self):
        wane = Wane([(1, 7), (2, 8)], [(3, 1), (4, 2), (5, 3)], cap=9, lift=1)
        told = [(1, 7), (2, 8), (3, 1), (4, 2), (5, 3), (3, 1), (4, 2), (5, 3), (3, 1)]
        self.assertEqual([wane.step(k) for k in range(1, 10)], told)

    def test_without_head(self):
        wane = Wane([], [(3, 1), (4, 2)], cap=9, lift=1)
        self.assertEqual([wane.step(k) for k in range(1, 6)], [(3, 1), (4, 2), (3, 1), (4, 2), (3, 1)])

    def test_each_length(self):
        for lead in range(25):
            for many in TAILS:
                head, tail = some_steps(lead), some_steps(many, 40)
                wane = Wane(head, tail, cap=9, lift=1)
                steps = head + tail * 60
                self.assertEqual([wane.step(k) for k in range(1, 61)], steps[:60])

    def test_great_numbers(self):
        wane = Wane([(1, 0)], [(1, k) for k in range(24)], cap=9, lift=1)
        # 10 ** 30 is 16 by 24; number 2 is the first of the tail.
        self.assertEqual(wane.step(FAR), (1, 14))
        self.assertEqual(wane.step(FAR - 1), (1, 13))
        self.assertEqual(wane.step(FAR - 15), (1, 23))
        self.assertEqual(wane.step(24 * 10 ** 20 + 2), (1, 0))

    def test_bounds(self):
        wane = Wane([(1, 5)], [(2, 6)], cap=9, lift=1)
        self.assertEqual((wane.step(1), wane.step(FAR)), ((1, 5), (2, 6)))
        for number in (0, -1, FAR + 1, -FAR, 10 ** 40, *strange_things(), "1", [1], (1,)):
            self.assertEqual(wrong_place(self, wane.step, number), 0)
        self.assertEqual(wane.step(1), (1, 5))


class Phases(unittest.TestCase):
    def test_by_hand(self):
        wane = Wane([(1, 7), (2, 8)], [(3, 1), (4, 2), (5, 3)], cap=9, lift=1)
        self.assertEqual([wane.phase(k) for k in range(12)], [0, 1, 2, 3, 4, 2, 3, 4, 2, 3, 4, 2])

    def test_without_head(self):
        wane = Wane([], [(3, 1), (4, 2)], cap=9, lift=1)
        self.assertEqual([wane.phase(k) for k in range(6)], [0, 1, 0, 1, 0, 1])

    def test_each_length_as_told(self):
        for lead in range(25):
            for many in TAILS:
                wane = Wane(some_steps(lead), some_steps(many, 40), cap=9, lift=1)
                for since in range(100):
                    phase = since
                    while phase >= lead + many:
                        phase -= many
                    self.assertEqual(wane.phase(since), phase)

    def test_steps_from_a_since_are_those_from_its_phase(self):
        for lead in (0, 1, 5, 24):
            for many in TAILS:
                wane = Wane(some_steps(lead), some_steps(many, 40), cap=9, lift=1)
                for since in (0, 3, lead + many - 1, lead + many, 97, 10 ** 12 + 5, FAR - 30):
                    phase = wane.phase(since)
                    steps = [wane.step(since + k) for k in range(1, 30)]
                    self.assertEqual(steps, [wane.step(phase + k) for k in range(1, 30)])

    def test_great_numbers(self):
        wane = Wane([(1, 0)] * 5, [(1, 1)] * 24, cap=9, lift=1)
        # 10 ** 30 - 5 is 11 by 24.
        self.assertEqual(wane.phase(FAR), 5 + 11)
        self.assertEqual(wane.phase(FAR - 11), 5)
        self.assertEqual(wane.phase(FAR - 12), 28)

    def test_bounds(self):
        wane = Wane([], [(2, 6)], cap=9, lift=1)
        self.assertEqual((wane.phase(0), wane.phase(FAR)), (0, 0))
        for since in (-1, FAR + 1, -FAR, 10 ** 40, *strange_things(), "1", [1], (1,)):
            self.assertEqual(wrong_place(self, wane.phase, since), 0)


class Wrongs(unittest.TestCase):
    def place(self, head=(), tail=((1, 0),), cap=5, lift=1, anew=True):
        """The place of the first wrong thing; head and tail may be tuples of steps here."""
        head = list(head) if isinstance(head, tuple) else head
        tail = list(tail) if isinstance(tail, tuple) else tail
        return wrong_place(self, Wane, head, tail, cap=cap, lift=lift, anew=anew)

    def test_head(self):
        for head in (((1, 0),) * 25, ((1, 0),) * 100, ((0, 0),), ((10, 0),), ((1, -1),), ((1, BILLION + 1),)):
            self.assertEqual(self.place(head=head), 0)
        for head in other_things():
            self.assertEqual(wrong_place(self, Wane, head, [(1, 0)], cap=5, lift=1), 0)
        for step in other_things():
            if step != (1, 0):
                self.assertEqual(wrong_place(self, Wane, [(1, 0), step], [(1, 0)], cap=5, lift=1), 0)

    def test_tail(self):
        for many in range(60):
            if many not in TAILS:
                self.assertEqual(self.place(tail=((1, 0),) * many), 1)
        for tail in (((0, 0),), ((10, 0),), ((1, -1),), ((1, BILLION + 1),), ((1, 0), (True, 0)), ((1, 0), (1, False))):
            self.assertEqual(self.place(tail=tail), 1)
        for tail in other_things():
            self.assertEqual(wrong_place(self, Wane, [], tail, cap=5, lift=1), 1)
        for step in other_things():
            if step != (1, 0):
                self.assertEqual(wrong_place(self, Wane, [], [(1, 0), step], cap=5, lift=1), 1)

    def test_cap(self):
        for cap in (*strange_things(), 0, -1, BILLION + 1, 10 ** 30, "1", [1], (1,)):
            self.assertEqual(self.place(cap=cap), 2)

    def test_lift(self):
        for lift in (*strange_things(), -1, BILLION + 1, 10 ** 30, "1", [1], (1,)):
            self.assertEqual(self.place(lift=lift), 3)

    def test_anew(self):
        for anew in (*strange_things(), 0, 1, "anew", "on", "", [], (True,)):
            if anew is not True and anew is not False:
                self.assertEqual(self.place(anew=anew), 4)

    def test_the_first_of_several(self):
        wrongs = [("head", None), ("tail", []), ("cap", 0), ("lift", -1), ("anew", 1)]
        for least in range(5):
            for more in range(2 ** (4 - least)):
                given = dict([wrongs[least]])
                given.update([wrongs[k] for k in range(least + 1, 5) if more >> (4 - k) & 1])
                self.assertEqual(self.place(**given), least)

    def test_whatever_order_they_are_named_in(self):
        self.assertEqual(wrong_place(self, Wane, [], [(1, 0)], anew=1, lift=-1, cap=0), 2)
        self.assertEqual(wrong_place(self, Wane, [], [(1, 0)], anew=1, lift=-1, cap=1), 3)
        self.assertEqual(wrong_place(self, Wane, anew=1, lift=-1, cap=0, tail=[], head=[]), 1)

    def test_what_is_refused_is_not_changed(self):
        head, tail = [(1, 0), None], [(1, 0)] * 5
        self.assertEqual(wrong_place(self, Wane, head, tail, cap=5, lift=1), 0)
        self.assertEqual((head, tail), ([(1, 0), None], [(1, 0)] * 5))

    def test_cap_and_lift_stand_behind_the_star(self):
        with self.assertRaises(TypeError):
            Wane([], [(1, 0)], 5, 1)


class Texts(unittest.TestCase):
    def test_as_the_document_writes_them(self):
        wane = Wane([(1, 0), (1, 0)], [(2, 0), (1, 3)], cap=100, lift=7, anew=True)
        self.assertEqual(wane.text(), "1-0 1-0 | 2-0 1-3 cap 100 lift 7 anew")
        wane = Wane([], [(1, 1)], cap=9, lift=0, anew=False)
        self.assertEqual(wane.text(), "| 1-1 cap 9 lift 0 on")

    def test_bounds(self):
        wane = Wane([(9, BILLION)], [(1, 0)], cap=BILLION, lift=BILLION)
        text = "9-1000000000 | 1-0 cap 1000000000 lift 1000000000 anew"
        self.assertEqual(wane.text(), text)
        self.assertEqual(read_wane(text).head(), [(9, BILLION)])
        self.assertEqual((read_wane(text).cap(), read_wane(text).lift()), (BILLION, BILLION))

    def test_there_and_back(self):
        for lead in range(25):
            for many in TAILS:
                for anew in (True, False):
                    head, tail = some_steps(lead), some_steps(many, 40)
                    text = Wane(head, tail, cap=lead * 100 + 1, lift=many, anew=anew).text()
                    wane = read_wane(text)
                    self.assertIs(type(wane), Wane)
                    self.assertEqual((wane.head(), wane.tail()), (head, tail))
                    self.assertEqual((wane.cap(), wane.lift()), (lead * 100 + 1, many))
                    self.assertIs(wane.is_anew(), anew)
                    self.assertEqual(wane.text(), text)

    def test_what_is_read_is_read_again(self):
        text = "1-0 | 2-1 cap 3 lift 4 on"
        self.assertIsNot(read_wane(text), read_wane(text))
        self.assertEqual(read_wane(text).text(), read_wane(text).text())


class NoTexts(unittest.TestCase):
    def refused(self, text):
        with self.assertRaises(NoText, msg=shown(text)) as caught:
            read_wane(text)
        self.assertIs(type(caught.exception), NoText)

    def refused_with(self, good, old, new):
        """Refused where the text has new in place of old; with old itself it is read."""
        self.assertIn(old, good)
        self.assertEqual(read_wane(good).text(), good)
        self.refused(good.replace(old, new, 1))

    def test_no_text_at_all(self):
        for thing in (*strange_things(), 0, 1, (), [], ["| 1-1 cap 9 lift 0 on"], b"| 1-1 cap 9 lift 0 on"):
            self.refused(thing)
        self.refused(["|", "1-1", "cap", "9", "lift", "0", "on"])
        self.refused(("|", "1-1", "cap", "9", "lift", "0", "on"))

    def test_short_ones(self):
        for text in ("", " ", "|", "| ", "on", "anew", "cap", "| cap 9 lift 0 on", "1-1 cap 9 lift 0 on", "| 1-1"):
            self.refused(text)
        words = "1-0 | 2-1 cap 3 lift 4 on".split(" ")
        for many in range(len(words)):
            self.refused(" ".join(words[:many]))
            self.refused(" ".join(words[1 + many:]) if many else " ".join(words[2:]))

    def test_a_blank_too_many(self):
        for good in ("1-0 2-1 | 2-1 3-4 cap 3 lift 4 on", "| 1-1 cap 9 lift 0 anew"):
            for at in range(len(good) + 1):
                for blank in (" ", "  ", "\n", "\t"):
                    self.refused(good[:at] + blank + good[at:])

    def test_a_sign_left_out(self):
        good = "1-0 2-1 | 2-1 3-4 cap 3 lift 4 on"
        for at in range(len(good)):
            self.refused(good[:at] + good[at + 1:])

    def test_a_sign_put_otherwise_or_in(self):
        good = "1-0 2-1 | 9-1 3-4 cap 3 lift 4 on"
        others = [chr(code) for code in range(32, 127)] + ["\n", "\t", "\0", "\u00e4", "\u0663", "\u00b2"]
        for at in range(len(good)):
            for sign in others:
                if sign not in "0123456789":
                    if sign != good[at]:
                        self.refused(good[:at] + sign + good[at + 1:])
                    self.refused(good[:at] + sign + good[at:])
        for sign in others:
            self.refused(good + sign)

    def test_noughts_ahead(self):
        good = "1-0 2-7 | 8-6 3-4 cap 35 lift 49 on"
        for old in ("1-0", "2-7", "8-6", "35", "49"):
            self.refused_with(good, old, "0" + old)
            self.refused_with(good, old, "00" + old)
        for old, new in (("1-0", "1-00"), ("2-7", "2-07"), ("8-6", "8-06"), ("3-4", "3-0004")):
            self.refused_with(good, old, new)

    def test_beyond_their_bounds(self):
        good = "1-0 2-7 | 8-6 3-4 cap 35 lift 49 on"
        for old, new in (
            ("1-0", "0-0"), ("1-0", "10-0"), ("2-7", "2-1000000001"), ("2-7", "2-9999999999"), ("8-6", "10-6"),
            ("8-6", "0-6"), ("8-6", "8-1000000001"), ("8-6", "8-10000000000"), ("cap 35", "cap 0"),
            ("cap 35", "cap 1000000001"), ("cap 35", "cap 9999999999"), ("lift 49", "lift 1000000001"),
            ("lift 49", "lift 10000000000"), ("lift 49", "lift 1" + "0" * 30),
        ):
            self.refused_with(good, old, new)

    def test_signs_within_numbers(self):
        good = "1-0 2-7 | 8-6 3-4 cap 35 lift 49 on"
        for old, new in (
            ("cap 35", "cap 3_5"), ("lift 49", "lift 4_9"), ("2-7", "2-1_7"), ("cap 35", "cap +35"),
            ("cap 35", "cap -35"), ("lift 49", "lift -0"), ("lift 49", "lift +49"), ("lift 49", "lift -49"),
            ("1-0", "1--0"), ("1-0", "-1-0"), ("1-0", "+1-0"), ("1-0", "1-+0"), ("2-7", "2-7-"), ("2-7", "2-7-7"),
            ("2-7", "-7"), ("2-7", "2-"), ("2-7", "27"), ("2-7", "-"), ("cap 35", "cap 35.0"), ("cap 35", "cap 0x23"),
            ("lift 49", "lift 4e1"), ("lift 49", "lift \u0664\u0669"), ("lift 49", "lift \u00b2"),
        ):
            self.refused_with(good, old, new)

    def test_some_thousands_of_figures(self):
        good = "1-0 2-7 | 8-6 3-4 cap 35 lift 49 on"
        for many in (11, 400, 4300, 4301, 5000, 20000):
            for figures in ("9" * many, "0" * many, "0" * many + "1"):
                for old, new in (
                    ("1-0", "1-" + figures), ("1-0", figures + "-0"), ("8-6", "8-" + figures), ("8-6", figures + "-6"),
                    ("cap 35", "cap " + figures), ("lift 49", "lift " + figures), ("1-0", figures), ("on", figures),
                ):
                    self.refused_with(good, old, new)

    def test_words_twice(self):
        words = "1-0 | 2-1 cap 3 lift 4 on".split(" ")
        for at, word in enumerate(words):
            if word not in ("1-0", "2-1"):
                self.refused(" ".join([*words[:at], word, *words[at:]]))

    def test_words_exchanged(self):
        words = "1-0 2-7 | 8-6 cap 35 lift 49 on".split(" ")
        for one in range(len(words)):
            for other in range(one):
                swapped = list(words)
                swapped[one], swapped[other] = words[other], words[one]
                text = " ".join(swapped)
                steps = one < 4 and swapped[3] != "|"
                if steps or (words[other], words[one]) == ("35", "49"):
                    # Steps and the bar in another order, some behind it, or both numbers: another wane.
                    self.assertEqual(read_wane(text).text(), text)
                else:
                    self.refused(text)

    def test_other_words(self):
        good = "1-0 2-7 | 8-6 3-4 cap 35 lift 49 on"
        for old, new in (
            ("on", "On"), ("on", "ON"), ("on", "off"), ("on", "new"), ("on", "anew on"), ("on", "on anew"),
            ("on", "onn"), ("on", "True"), ("on", ""), ("cap", "Cap"), ("cap", "CAP"), ("lift", "LIFT"),
            ("lift", "Lift"), ("cap", "lift"), ("lift", "cap"), ("|", "||"), ("|", "| |"), ("|", "/"), ("|", ""),
            ("cap 35 lift 49", "lift 49 cap 35"), ("cap 35", ""), ("lift 49 ", ""), ("cap 35", "cap"),
        ):
            self.refused_with(good, old, new)
        for new in ("Anew", "ANEW", "aneW", "anew.", "anew anew", "an ew"):
            self.refused_with("| 1-1 cap 9 lift 0 anew", "anew", new)

    def test_lengths_of_head_and_tail(self):
        for many in range(60):
            text = "| " + "1-1 " * many + "cap 9 lift 0 on"
            if many in TAILS:
                self.assertEqual(read_wane(text).tail(), [(1, 1)] * many)
            else:
                self.refused(text)
            text = "1-1 " * many + "| 2-2 cap 9 lift 0 on"
            if many <= 24:
                self.assertEqual(read_wane(text).head(), [(1, 1)] * many)
            else:
                self.refused(text)

    def test_two_texts(self):
        good = "| 1-1 cap 9 lift 0 on"
        for joint in ("", " ", "\n"):
            self.refused(good + joint + good)


class Within(unittest.TestCase):
    def test_levels(self):
        wane = Wane([], [(1, 0)], cap=5, lift=1)
        for thing, wanted in ((0, True), (1, True), (5, True), (6, False), (-1, False), (False, False), (None, False)):
            self.assertIs(wanes.is_level(wane, thing), wanted)
        self.assertIs(wanes.is_level(None, 1), False)


if __name__ == "__main__":
    unittest.main()
