"""Tests of points 2 and 3: a new room, its seats and its patience."""

import copy
import inspect
import unittest

from readwriteroom import room as room_file
from readwriteroom.errors import BadNumber
from readwriteroom.room import Room

from rooms import MANY, done, told_of

METHODS = ("come", "leave", "ask", "ease", "readers", "writer", "asker",
           "line", "passed", "journal")
NO_NUMBERS = (
    True, False, None, "", "1", "2", "seats", b"1", [], [1], [1, 2], (), (1,),
    {}, {1: 1},
)
NO_SEATS = NO_NUMBERS + (
    0, -1, -2, -MANY, -10 ** 30, -10 ** 5000,
    MANY + 1, MANY + 2, 10 ** 10, 10 ** 30, 10 ** 5000,
)
NO_PATIENCE = NO_NUMBERS + (
    -1, -2, -MANY, -10 ** 30, -10 ** 5000,
    MANY + 1, MANY + 2, 10 ** 10, 10 ** 30, 10 ** 5000,
)


class NewRoomTest(unittest.TestCase):

    def assert_bad_number(self, seats, patience):
        kept = copy.deepcopy((seats, patience))
        with self.assertRaises(BadNumber) as caught:
            Room(seats, patience)
        self.assertIs(type(caught.exception), BadNumber)
        self.assertEqual((seats, patience), kept)

    def test_defined_in_the_file_with_its_methods(self):
        self.assertTrue(inspect.isclass(Room))
        self.assertEqual(Room.__module__, "readwriteroom.room")
        self.assertIs(room_file.Room, Room)
        for name in METHODS:
            with self.subTest(name):
                self.assertTrue(inspect.isfunction(vars(Room)[name]))

    def test_arguments_by_their_names(self):
        room = Room(seats=2, patience=1)
        self.assertEqual(room.come(name="ann", wish="write"), [("ann", "write")])
        self.assertEqual(room.come(name="bob", wish="read"), [])
        self.assertEqual(room.passed(name="bob"), 0)
        self.assertEqual(room.ease(name="ann"), [("bob", "read")])
        self.assertEqual(room.ask(name="bob"), [])
        self.assertEqual(room.leave(name="ann"), [("bob", "write")])

    def test_least_and_greatest(self):
        for seats in (1, 2, 3, 100, MANY - 1, MANY):
            for patience in (0, 1, 2, 100, MANY - 1, MANY):
                with self.subTest(seats=seats, patience=patience):
                    room = Room(seats, patience)
                    self.assertEqual(room.seats, seats)
                    self.assertEqual(room.patience, patience)
                    self.assertIs(type(room.seats), int)
                    self.assertIs(type(room.patience), int)

    def test_a_new_room_is_empty(self):
        for seats, patience in ((1, 0), (3, 2), (MANY, MANY)):
            room = Room(seats, patience)
            self.assertEqual(told_of(room), {
                "seats": seats, "patience": patience, "readers": [],
                "writer": None, "asker": None, "line": [], "passed": [],
                "journal": [],
            })
            self.assertIs(room.writer(), None)
            self.assertIs(room.asker(), None)

    def test_seats_that_are_none(self):
        for at, seats in enumerate(NO_SEATS):
            for patience in (0, 1, MANY):
                with self.subTest(at=at):
                    self.assert_bad_number(seats, patience)

    def test_patience_that_is_none(self):
        for at, patience in enumerate(NO_PATIENCE):
            for seats in (1, 2, MANY):
                with self.subTest(at=at):
                    self.assert_bad_number(seats, patience)

    def test_both_that_are_none(self):
        for at, seats in enumerate(NO_SEATS):
            for beside, patience in enumerate(NO_PATIENCE):
                with self.subTest(at=at, beside=beside):
                    self.assert_bad_number(seats, patience)

    def test_patience_may_be_nought_and_seats_may_not(self):
        self.assertEqual(Room(1, 0).patience, 0)
        self.assert_bad_number(0, 0)
        self.assert_bad_number(0, 1)

    def test_the_least_room(self):
        room = Room(1, 0)
        self.assertEqual(room.come("ann", "read"), [("ann", "read")])
        self.assertEqual(room.come("bob", "read"), [])
        self.assertEqual(room.come("cy", "write"), [])
        self.assertEqual(room.leave("ann"), [("bob", "read")])
        self.assertEqual(room.leave("bob"), [("cy", "write")])

    def test_the_greatest_room(self):
        room = Room(MANY, MANY)
        self.assertEqual(room.come("ann", "read"), [("ann", "read")])
        self.assertEqual(room.come("bob", "write"), [])
        for at in range(50):
            name = "p" + str(at)
            self.assertEqual(room.come(name, "read"), [(name, "read")])
            self.assertEqual(room.passed("bob"), at + 1)

    def test_two_rooms_do_not_touch_each_other(self):
        one, other = Room(2, 1), Room(2, 1)
        one.come("ann", "read")
        one.come("bob", "write")
        self.assertEqual(told_of(other), told_of(Room(2, 1)))
        other.come("ann", "write")
        kept = told_of(one)
        other.come("bob", "read")
        other.leave("ann")
        other.ask("bob")
        self.assertEqual(told_of(one), kept)
        one.leave("ann")
        self.assertEqual(one.writer(), "bob")
        self.assertEqual(other.journal(), [
            ("came", "ann", "write"), ("begins", "ann", "write"),
            ("came", "bob", "read"), ("left", "ann"),
            ("begins", "bob", "read"), ("asked", "bob"),
            ("begins", "bob", "write"),
        ])

    def test_names_and_wishes_that_are_put_together(self):
        room = Room(3, 1)
        name, wish = "".join(["a", "nn"]), "".join(["wri", "te"])
        self.assertEqual(room.come(name, wish), [("ann", "write")])
        self.assertEqual(room.writer(), "ann")
        self.assertEqual(done(room, "come", "ann", "read").__name__, "Known")

    def test_names_that_are_words_of_the_program(self):
        room = Room(3, 1)
        for name in ("read", "write", "none", "came", "begins", "0", "000",
                     "123456789012", "abcdefghijkl"):
            self.assertEqual(room.come(name, "write"),
                             [(name, "write")] if name == "read" else [])
        self.assertEqual(room.writer(), "read")
        self.assertEqual(room.leave("read"), [("write", "write")])
        self.assertEqual(room.leave("write"), [("none", "write")])


if __name__ == "__main__":
    unittest.main()
