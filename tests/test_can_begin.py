"""Tests of point 5: `can_begin` of readwriteroom/rules.py."""

import unittest

from readwriteroom.rules import can_begin

MANY = 10 ** 9


class CanBeginTest(unittest.TestCase):

    def assert_told(self, seats, reading, writes, read, write):
        with self.subTest(seats=seats, reading=reading, writes=writes):
            self.assertIs(can_begin(seats, reading, writes, "read"), read)
            self.assertIs(can_begin(seats, reading, writes, "write"), write)

    def test_defined_in_the_file(self):
        self.assertEqual(can_begin.__module__, "readwriteroom.rules")
        self.assertIs(
            can_begin(seats=2, reading=1, writes=False, wish="read"), True)

    def test_nobody_in_the_room(self):
        for seats in (1, 2, 3, 7, MANY):
            self.assert_told(seats, 0, False, True, True)

    def test_somebody_writes(self):
        for seats in (1, 2, 3, 7, MANY):
            self.assert_told(seats, 0, True, False, False)

    def test_some_read(self):
        self.assert_told(3, 1, False, True, False)
        self.assert_told(7, 3, False, True, False)
        self.assert_told(MANY, 1, False, True, False)

    def test_one_fewer_than_seats_reads(self):
        for seats in (2, 3, 7, MANY):
            self.assert_told(seats, seats - 1, False, True, False)

    def test_as_many_as_seats_read(self):
        for seats in (1, 2, 3, 7, MANY):
            self.assert_told(seats, seats, False, False, False)

    def test_one_seat(self):
        self.assert_told(1, 0, False, True, True)
        self.assert_told(1, 1, False, False, False)
        self.assert_told(1, 0, True, False, False)

    def test_a_wish_that_is_put_together(self):
        self.assertIs(can_begin(2, 1, False, "".join(["re", "ad"])), True)
        self.assertIs(can_begin(2, 1, False, "".join(["wri", "te"])), False)


if __name__ == "__main__":
    unittest.main()
