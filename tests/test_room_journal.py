"""Tests of points 1 and 14: the journal, and whose the lists are."""

import random
import unittest

from readwriteroom.room import Room

from plain_room import PlainRoom
from rooms import done, drawn_deed, names_up_to, room_with, told_of

LISTS = ("readers", "line", "journal")


class JournalTest(unittest.TestCase):

    def assert_behind(self, room, deed, *rows):
        """The rows that a deed adds to the journal, and nothing else changed."""
        kept = room.journal()
        word, *told = deed.split()
        with self.subTest(deed=deed):
            getattr(room, word)(*told)
            found = room.journal()
            self.assertEqual(found[:len(kept)], kept)
            self.assertEqual(found[len(kept):],
                             [tuple(row.split()) for row in rows])
            self.assertIs(type(found), list)
            for row in found:
                self.assertIs(type(row), tuple)
                for word in row:
                    self.assertIs(type(word), str)

    def test_behind_each_deed_nobody_begins(self):
        room = room_with(2, 1, "come ann write")
        self.assert_behind(room, "come bob write", "came bob write")
        self.assert_behind(room, "come cy read", "came cy read")
        self.assert_behind(room, "leave cy", "left cy")
        self.assert_behind(room, "leave bob", "left bob")
        self.assert_behind(room, "ease ann", "eased ann")
        self.assert_behind(room, "come di read", "came di read", "begins di read")
        self.assert_behind(room, "ask di", "asked di")
        self.assert_behind(room, "leave di", "left di")
        self.assert_behind(room, "leave ann", "left ann")

    def test_behind_each_deed_one_begins(self):
        room = Room(2, 1)
        self.assert_behind(room, "come ann read", "came ann read", "begins ann read")
        self.assert_behind(room, "come bob write", "came bob write")
        self.assert_behind(room, "come cy read", "came cy read", "begins cy read")
        self.assert_behind(room, "ask cy", "asked cy")
        self.assert_behind(room, "leave ann", "left ann", "begins cy write")
        self.assert_behind(room, "come di read", "came di read")
        self.assert_behind(room, "leave bob", "left bob")
        self.assert_behind(room, "ease cy", "eased cy", "begins di read")
        self.assert_behind(room, "leave cy", "left cy")
        self.assert_behind(room, "ask di", "asked di", "begins di write")
        self.assert_behind(room, "come eve write", "came eve write")
        self.assert_behind(room, "leave di", "left di", "begins eve write")

    def test_behind_a_deed_several_begin(self):
        room = room_with(4, 1, "come ann write", "come bob read",
                         "come cy write", "come di read", "come eve read")
        self.assert_behind(room, "ease ann", "eased ann", "begins bob read",
                           "begins di read")
        self.assert_behind(room, "leave cy", "left cy", "begins eve read")
        room = room_with(3, 0, "come ann write", "come bob read",
                         "come cy read", "come di read", "come eve read")
        self.assert_behind(room, "leave ann", "left ann", "begins bob read",
                           "begins cy read", "begins di read")
        room = room_with(9, 1, "come ann read", "come bob write",
                         "come cy read", "come di read", "come eve read")
        self.assert_behind(room, "leave bob", "left bob", "begins di read",
                           "begins eve read")

    def test_what_is_refused_stands_in_no_journal(self):
        room = room_with(2, 1, "come ann read")
        kept = room.journal()
        for deed in (("come", "ann", "read"), ("come", "Bob", "read"),
                     ("come", "bob", "look"), ("leave", "bob"), ("ask", "bob"),
                     ("ease", "ann"), ("passed", "ann"), ("passed", "bob")):
            done(room, *deed)
            self.assertEqual(room.journal(), kept)

    def test_a_whole_journal(self):
        room = room_with(2, 1, "come ann read", "come bob write",
                         "come cy read", "leave ann", "leave cy", "leave bob")
        self.assertEqual(room.journal(), [
            ("came", "ann", "read"), ("begins", "ann", "read"),
            ("came", "bob", "write"), ("came", "cy", "read"),
            ("begins", "cy", "read"), ("left", "ann"), ("left", "cy"),
            ("begins", "bob", "write"), ("left", "bob"),
        ])


class OwnListsTest(unittest.TestCase):

    def spoil(self, things):
        things.append("mine")
        things.reverse()
        things[0] = None
        things.clear()

    def test_a_list_is_a_new_one_each_time(self):
        room = room_with(2, 1, "come ann read", "come bob write")
        for name in LISTS:
            one, other = getattr(room, name)(), getattr(room, name)()
            self.assertEqual(one, other)
            self.assertIsNot(one, other)
        empty = Room(1, 0)
        for name in LISTS:
            self.assertIsNot(getattr(empty, name)(), getattr(empty, name)())
            self.spoil(getattr(empty, name)())
            self.assertEqual(getattr(Room(1, 0), name)(), [])
        self.assertEqual(told_of(empty), told_of(Room(1, 0)))

    def test_what_is_done_to_the_lists_changes_nothing(self):
        chance, names = random.Random(11), names_up_to(9)
        room, plain = Room(3, 2), PlainRoom(3, 2)
        for _ in range(300):
            deed, *told = drawn_deed(chance, plain, names, 0.6)
            if plain.refusal(deed, *told) is None:
                found = done(room, deed, *told)
                self.assertEqual(found, plain.do(deed, *told))
                self.spoil(found)
            for name in LISTS:
                self.spoil(getattr(room, name)())
            self.assertEqual(told_of(room), plain.told())

    def test_a_later_deed_changes_no_list_that_was_given(self):
        chance, names = random.Random(12), names_up_to(9)
        room, plain = Room(3, 2), PlainRoom(3, 2)
        given = []
        for _ in range(200):
            deed, *told = drawn_deed(chance, plain, names, 0.6)
            if plain.refusal(deed, *told) is None:
                plain.do(deed, *told)
                found = done(room, deed, *told)
                given.append((found, list(found)))
            for name in LISTS:
                found = getattr(room, name)()
                given.append((found, list(found)))
            for name, _ in room.line():
                room.passed(name)
        for found, kept in given:
            self.assertEqual(found, kept)

    def test_what_tells_changes_nothing(self):
        room = room_with(3, 1, "come ann read", "come bob write",
                         "come cy read", "come di read", "ask ann")
        kept = told_of(room)
        for _ in range(3):
            room.readers(), room.writer(), room.asker(), room.line()
            room.journal(), room.passed("bob"), room.passed("di")
            self.assertEqual(told_of(room), kept)


if __name__ == "__main__":
    unittest.main()
