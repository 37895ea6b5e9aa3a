"""Tests of readwriteroom/errors.py."""

import unittest

from readwriteroom import errors

TWELVE = (
    "BadName", "BadWish", "BadNumber", "Known", "Stranger", "Outside",
    "Inside", "Reads", "Writes", "Asked", "BadText", "BadJournal",
)


class ErrorsTest(unittest.TestCase):

    def test_room_error_is_a_value_error(self):
        self.assertTrue(issubclass(errors.RoomError, ValueError))
        self.assertIsNot(errors.RoomError, ValueError)

    def test_each_class_is_defined_in_the_file(self):
        for name in ("RoomError",) + TWELVE:
            with self.subTest(name):
                found = getattr(errors, name)
                self.assertIsInstance(found, type)
                self.assertEqual(found.__name__, name)
                self.assertEqual(found.__module__, "readwriteroom.errors")

    def test_each_of_the_twelve_is_a_room_error_of_its_own(self):
        for name in TWELVE:
            with self.subTest(name):
                found = getattr(errors, name)
                self.assertTrue(issubclass(found, errors.RoomError))
                self.assertFalse(issubclass(errors.RoomError, found))

    def test_none_of_the_twelve_is_another(self):
        for name in TWELVE:
            for other in TWELVE:
                if name != other:
                    with self.subTest(name, other=other):
                        self.assertFalse(issubclass(
                            getattr(errors, name), getattr(errors, other)))

    def test_each_is_raised_and_caught_by_name(self):
        for name in TWELVE:
            with self.subTest(name):
                found = getattr(errors, name)
                with self.assertRaises(found):
                    raise found("why")
                with self.assertRaises(errors.RoomError):
                    raise found("why")


if __name__ == "__main__":
    unittest.main()
