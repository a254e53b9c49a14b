"""The errors: their base, their fields by position and by name, and made without them."""

import inspect
import unittest

from lazytags import errors
from lazytags.settings import Setting

FIELDS = {
    "InvalidSize": "size",
    "InvalidMachine": "thing",
    "InvalidRow": "thing",
    "InvalidMap": "thing",
    "NotASetting": "thing",
    "InvalidExpression": "thing",
    "InvalidRecipe": "thing",
    "InvalidForm": "thing",
    "InvalidRange": "thing",
    "InvalidMaps": "name",
    "InvalidAsks": "name",
    "NoSuchDeed": "name",
    "NoSuchAsk": "name",
    "InvalidTurning": "turning",
    "InvalidDeeds": "place",
    "InvalidPlan": "place",
    "NotMade": "place",
    "InvalidLength": "length",
    "InvalidTable": "problem",
    "InvalidTags": "problem",
    "Unreadable": "line",
}
PLAIN = ["TooMany", "NothingToUndo"]


class TestErrors(unittest.TestCase):
    def test_all_classes_are_there_and_no_others(self):
        found = [name for name, thing in vars(errors).items() if inspect.isclass(thing)]
        self.assertEqual(sorted(found), sorted(["LazyError", *FIELDS, *PLAIN]))

    def test_bases(self):
        self.assertEqual(errors.LazyError.__bases__, (ValueError,))
        for name in [*FIELDS, *PLAIN]:
            self.assertEqual(getattr(errors, name).__bases__, (errors.LazyError,), name)

    def test_fields_by_position_by_name_and_left_out(self):
        things = [None, True, 0, 7, "a\n", (), [1, [2]], {"a": (1,)}, ("joins", 1), (2, 5), Setting(2)]
        for name, field in FIELDS.items():
            kind = getattr(errors, name)
            for thing in things:
                self.assertEqual(getattr(kind(thing), field), thing)
                self.assertEqual(getattr(kind(**{field: thing}), field), thing)
                self.assertIs(type(getattr(kind(thing), field)), type(thing))
            self.assertTrue(hasattr(kind(), field), name)

    def test_fields_that_a_setting_has_as_properties(self):
        for kind, field in [(errors.InvalidSize, "size"), (errors.InvalidTurning, "turning")]:
            for thing in [0, 5, True, None, "2", [1], Setting(2, turning=True)]:
                for error in [kind(thing), kind(**{field: thing})]:
                    self.assertEqual(getattr(error, field), thing)
                    setattr(error, field, 7)
                    self.assertEqual(getattr(error, field), 7)
            self.assertTrue(hasattr(kind(), field))

    def test_no_other_fields(self):
        for name, field in FIELDS.items():
            self.assertEqual(list(vars(getattr(errors, name)(3))), [field])
            with self.assertRaises(TypeError):
                getattr(errors, name)(**{"other": 3})

    def test_errors_without_fields(self):
        for name in ["LazyError", *PLAIN]:
            self.assertEqual(vars(getattr(errors, name)()), {})

    def test_they_are_caught_as_the_base(self):
        for name in [*FIELDS, *PLAIN]:
            with self.assertRaises(errors.LazyError):
                raise getattr(errors, name)()


if __name__ == "__main__":
    unittest.main()
