import unittest

from things import shown, strange_things
from wanehold import kinds

QUESTIONS = (
    "is_whole", "is_name", "is_sort", "is_strength", "is_size", "is_shift", "is_room", "is_moment", "are_hours",
    "is_row", "is_step",
)
BOUNDS = {
    "is_sort": (0, 9),
    "is_strength": (1, 10 ** 9),
    "is_size": (0, 10 ** 9),
    "is_shift": (-(10 ** 9), 10 ** 9),
    "is_room": (1, 10 ** 12),
    "is_moment": (0, 10 ** 30),
}
LETTERS = "abcdefghijklmnopqrstuvwxyz"
SIGNS = [chr(code) for code in range(128)]


class Kinds(unittest.TestCase):
    def tells(self, word, thing, wanted):
        """Look that the question tells this truth, and the same again."""
        ask = getattr(kinds, word)
        self.assertIs(ask(thing), wanted, (word, shown(thing)))
        self.assertIs(ask(thing), wanted, (word, shown(thing)))


class Numbers(Kinds):
    def test_at_beside_and_far_beyond_each_bound(self):
        for word, (least, most) in BOUNDS.items():
            for number in (least, least + 1, (least + most) // 2, most - 1, most):
                self.tells(word, number, True)
            for number in (least - 1, most + 1, -(10 ** 40), 10 ** 40, most * 10 + 9, -(10 ** 5000), 10 ** 5000):
                self.tells(word, number, False)

    def test_nought_and_below(self):
        for word, (least, _) in BOUNDS.items():
            self.tells(word, 0, least <= 0)
            self.tells(word, -1, least < 0)
            self.tells(word, 1, True)

    def test_each_sort(self):
        for number in range(-20, 40):
            self.tells("is_sort", number, 0 <= number <= 9)

    def test_whole(self):
        for number in (0, 1, -1, 9, -(10 ** 9), 10 ** 12, 10 ** 30 + 1, -(10 ** 5000), 10 ** 5000):
            self.tells("is_whole", number, True)

    def test_no_truths_texts_or_other_things(self):
        for word in ("is_whole", *BOUNDS):
            for thing in (*strange_things(), "", "1", "a", [], [1], (), (1,), (1, 0)):
                self.tells(word, thing, False)


class Names(Kinds):
    def test_one_to_eight_letters(self):
        for text in ("a", "z", "m", "aa", "ab", "wanehold", "zzzzzzzz", *LETTERS):
            self.tells("is_name", text, True)
        for many in range(1, 9):
            self.tells("is_name", LETTERS[-many:], True)
        for text in ("", "waneholds", "a" * 9, "a" * 100):
            self.tells("is_name", text, False)

    def test_one_sign_otherwise(self):
        for sign in SIGNS:
            for text in ("{}", "{}bcdefgh", "abcd{}fgh", "abcdefg{}", "a{}"):
                self.tells("is_name", text.format(sign), sign in LETTERS)

    def test_beyond_ascii(self):
        for text in ("\u00e4", "a\u00df", "\u0131", "\uff41"):
            self.tells("is_name", text, False)

    def test_other_things(self):
        for thing in (*strange_things(), 0, 1, (), [], ("a",), ["a"], ["a", "b"]):
            self.tells("is_name", thing, False)


class Hours(Kinds):
    def test_rising(self):
        for hours in ((0,), (23,), (0, 1), (0, 23), (5, 6, 22), tuple(range(24)), tuple(range(1, 24))):
            self.tells("are_hours", hours, True)
        for hour in range(24):
            self.tells("are_hours", (hour,), True)

    def test_none(self):
        self.tells("are_hours", (), False)

    def test_falling_or_twice(self):
        for hours in ((1, 0), (0, 0), (23, 23), (0, 2, 1), (0, 1, 1), (0, 0, 1), (3, 1, 2), tuple(range(23, -1, -1))):
            self.tells("are_hours", hours, False)

    def test_beyond_the_day(self):
        for hours in ((-1,), (24,), (0, 24), (-1, 0), (0, 10 ** 30), (-(10 ** 30), 3), tuple(range(25))):
            self.tells("are_hours", hours, False)

    def test_no_hours_within(self):
        for thing in (*strange_things(), "1", "a", (1,), [1]):
            for hours in ((thing,), (0, thing), (thing, 2), (0, thing, 2)):
                self.tells("are_hours", hours, False)

    def test_other_things(self):
        for thing in (*strange_things(), 0, 1, "", "a", "0", [], [0], [0, 1], list(range(24))):
            self.tells("are_hours", thing, False)


class Rows(Kinds):
    def test_none_to_two_hundred_signs(self):
        for row in ("", ".", "a", "..", "aa", ".a", "a.", "." * 199, "." * 200, "a" * 200, ".a" * 100):
            self.tells("is_row", row, True)
        for row in ("." * 201, "a" * 201, ".a" * 100 + ".", "." * 400, "." * 10000):
            self.tells("is_row", row, False)

    def test_one_sign_otherwise(self):
        for sign in SIGNS:
            for row in (sign, sign + "." * 199, "." * 100 + sign + "a" * 99, ".a" * 99 + "." + sign, "a." + sign):
                self.tells("is_row", row, sign in (".", "a"))

    def test_other_things(self):
        for thing in (*strange_things(), 0, 1, (), [], (".",), ["."], [".", "a"], b".", b".a"):
            self.tells("is_row", thing, False)


class Steps(Kinds):
    def test_each_by(self):
        for by in range(-3, 15):
            for take in (0, 1, 10 ** 9):
                self.tells("is_step", (by, take), 1 <= by <= 9)

    def test_bounds_of_take(self):
        for take in (0, 1, 2, 10 ** 9 - 1, 10 ** 9):
            self.tells("is_step", (1, take), True)
        for take in (-1, 10 ** 9 + 1, 10 ** 30, -(10 ** 30)):
            self.tells("is_step", (1, take), False)
            self.tells("is_step", (9, take), False)

    def test_lengths(self):
        for thing in ((), (1,), (1, 0, 0), (1, 0, 1, 0), ((1, 0),), ((1, 0), (1, 0))):
            self.tells("is_step", thing, False)

    def test_other_things_within(self):
        for thing in (*strange_things(), "1", "", [], [1], (1,)):
            self.tells("is_step", (thing, 1), False)
            self.tells("is_step", (1, thing), False)

    def test_other_things(self):
        for thing in (*strange_things(), 0, 1, "", "1-0", "10", [], [1, 0], [(1, 0)], {1: 0}, {"by": 1, "take": 0}):
            self.tells("is_step", thing, False)


class Interface(Kinds):
    def test_each_is_defined_in_its_file(self):
        for word in QUESTIONS:
            self.assertEqual(getattr(kinds, word).__module__, "wanehold.kinds")

    def test_nothing_is_changed(self):
        for make in (lambda: [1, 0], lambda: {"a": [1]}, lambda: ([1], [2]), lambda: [(1, 0)]):
            thing = make()
            for word in QUESTIONS:
                getattr(kinds, word)(thing)
            self.assertEqual(thing, make())


class HourOf(unittest.TestCase):
    def test_remainder_by_twenty_four(self):
        for moment, hour in ((0, 0), (1, 1), (23, 23), (24, 0), (25, 1), (47, 23), (48, 0), (10 ** 30, 16)):
            self.assertEqual(kinds.hour_of(moment), hour)


if __name__ == "__main__":
    unittest.main()
