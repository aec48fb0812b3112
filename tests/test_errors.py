import unittest

from wanehold import errors

FIELDS = {
    "Wrong": "place", "NoText": None, "TooMany": "most", "There": "name", "Gone": "name", "NoAsker": "number",
    "TooFar": "most", "Busy": None, "NoNumber": "number", "NotOne": None, "Unlike": None, "Full": "place",
    "NoDeed": "number", "NoRow": None, "NoName": "name", "Nothing": None,
}


def kept():
    """The classes that keep a thing, with the names of their fields."""
    return [(getattr(errors, word), field) for word, field in FIELDS.items() if field is not None]


def bare():
    return [getattr(errors, word) for word, field in FIELDS.items() if field is None]


class Bases(unittest.TestCase):
    def test_wane_error_stands_under_value_error(self):
        self.assertEqual(errors.WaneError.__bases__, (ValueError,))

    def test_there_are_sixteen(self):
        self.assertEqual(len(FIELDS), 16)
        found = [word for word, thing in vars(errors).items() if isinstance(thing, type)]
        self.assertEqual(sorted(found), sorted([*FIELDS, "WaneError"]))

    def test_each_stands_straight_under_wane_error(self):
        for word in FIELDS:
            self.assertEqual(getattr(errors, word).__bases__, (errors.WaneError,), word)

    def test_none_stands_under_another_one(self):
        for one in FIELDS:
            for other in FIELDS:
                under = issubclass(getattr(errors, one), getattr(errors, other))
                self.assertEqual(under, one == other, (one, other))

    def test_each_is_defined_in_its_file(self):
        for word in [*FIELDS, "WaneError"]:
            self.assertEqual(getattr(errors, word).__module__, "wanehold.errors")


class Fields(unittest.TestCase):
    def test_keep_the_very_thing(self):
        for thing in [
            0, 3, -1, 10 ** 40, True, False, None, "", "abc", (), (1, 2), [], [1], {}, {"a": 1}, {1}, b"a", 0.5,
            object(), int, len, lambda: 1, ValueError("x"), errors.Wrong(3), errors.NoText(),
        ]:
            for error, field in kept():
                self.assertIs(getattr(error(thing), field), thing)
                self.assertIs(getattr(error(**{field: thing}), field), thing)

    def test_a_list_changed_later_on_is_the_very_list(self):
        for error, field in kept():
            things = [1]
            made = error(things)
            things.append(2)
            self.assertIs(getattr(made, field), things)
            self.assertEqual(getattr(made, field), [1, 2])
            self.assertEqual(things, [1, 2])

    def test_two_know_nothing_of_one_another(self):
        for error, field in kept():
            one, other = error(1), error(2)
            self.assertEqual((getattr(one, field), getattr(other, field)), (1, 2))

    def test_a_thing_is_needed(self):
        for error, _ in kept():
            with self.assertRaises(TypeError):
                error()


class Raised(unittest.TestCase):
    def test_caught_by_each_class_above_and_by_no_other(self):
        for error, field in kept():
            thing = [field]
            for above in (error, errors.WaneError, ValueError, Exception):
                with self.assertRaises(above) as caught:
                    raise error(thing)
                self.assertIs(type(caught.exception), error)
                self.assertIs(getattr(caught.exception, field), thing)

    def test_those_that_keep_nothing(self):
        for error in bare():
            for above in (error, errors.WaneError, ValueError):
                with self.assertRaises(above) as caught:
                    raise error()
                self.assertIs(type(caught.exception), error)

    def test_not_caught_by_another_one(self):
        for error, _ in kept():
            for other, _ in kept():
                if other is not error:
                    with self.assertRaises(error):
                        try:
                            raise error(1)
                        except other:
                            pass


if __name__ == "__main__":
    unittest.main()
