"""cursorscripts.errors: the classes, their base and their fields."""

import copy
import pickle
import unittest

import samples
from cursorscripts import errors
from cursorscripts.errors import CursorError

FIELDS = {
    "InvalidTree": "thing", "InvalidState": "thing", "InvalidPattern": "thing", "InvalidRewriting": "thing",
    "InvalidFilling": "thing", "InvalidCommand": "thing", "InvalidScript": "problem", "InvalidList": "problem",
    "InvalidPath": "place", "InvalidCommands": "place", "InvalidCount": "most", "InvalidLabels": "thing",
    "InvalidLikeness": "likeness", "Drops": "number", "InvalidNumber": "number", "Needed": "number",
    "NotOneToOne": "states", "InvalidName": "name", "NoSuchName": "name", "Failed": "name", "Unreadable": "at",
}
WITHOUT = ("NoBack", "TooMany", "NothingToUndo")


class ErrorsTest(unittest.TestCase):
    def test_base_class(self):
        self.assertEqual(CursorError.__bases__, (ValueError,))
        self.assertIsInstance(CursorError(), ValueError)

    def test_just_the_classes_of_the_interface(self):
        found = [name for name, value in vars(errors).items() if isinstance(value, type)]
        self.assertEqual(sorted(found), sorted([*FIELDS, *WITHOUT, "CursorError"]))

    def test_each_class_is_directly_below_the_base(self):
        for name in (*FIELDS, *WITHOUT):
            found = getattr(errors, name)
            self.assertEqual(found.__bases__, (CursorError,), name)
            self.assertEqual(found.__module__, "cursorscripts.errors")
            self.assertEqual(found.__name__, name)

    def test_fields_by_position_by_name_and_left_out(self):
        for name, field in FIELDS.items():
            make = getattr(errors, name)
            self.assertEqual(getattr(make((1, "x")), field), (1, "x"), name)
            self.assertEqual(getattr(make(**{field: [2]}), field), [2], name)
            self.assertTrue(hasattr(make(), field), name)

    def test_fields_may_be_anything_and_are_kept(self):
        for name, field in FIELDS.items():
            make = getattr(errors, name)
            for thing in samples.anything():
                for made in (make(thing), make(**{field: thing})):
                    self.assertEqual(getattr(made, field), thing)
                    self.assertIs(getattr(made, field).__class__, thing.__class__)

    def test_each_error_has_its_own_field(self):
        first, second = errors.InvalidPath(1), errors.InvalidPath(2)
        self.assertEqual([first.place, second.place], [1, 2])

    def test_they_are_raised_and_caught(self):
        for name in (*FIELDS, *WITHOUT):
            make = getattr(errors, name)
            for base in (make, CursorError, ValueError):
                with self.assertRaises(base):
                    raise make()

    def test_no_other_field_is_taken(self):
        for name, field in FIELDS.items():
            with self.assertRaises(TypeError):
                getattr(errors, name)(**{field + "s": 1})
            with self.assertRaises(TypeError):
                getattr(errors, name)(1, 2)

    def test_copies_keep_the_field(self):
        for name, field in FIELDS.items():
            for made in (getattr(errors, name)(**{field: (3,)}), getattr(errors, name)((3,))):
                self.assertEqual(getattr(copy.copy(made), field), (3,))
                self.assertEqual(getattr(pickle.loads(pickle.dumps(made)), field), (3,))


if __name__ == "__main__":
    unittest.main()
