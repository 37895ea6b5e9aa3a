"""Tests of points 9 to 13: the deeds, their refusals, and `passed`."""

import copy
import itertools
import unittest

from readwriteroom import errors
from readwriteroom.room import Room

from rooms import MANY, NO_NAMES, NO_WISHES, assert_right, done, room_with, told_of


def crowded():
    """ann and bob read, ann has asked, cy waits to write and di to read."""
    return room_with(2, 1, "come ann read", "come bob read", "come cy write",
                     "come di read", "ask ann")


def written():
    """ann writes, bob waits to read and cy to write."""
    return room_with(2, 1, "come ann write", "come bob read", "come cy write")


def passed_by():
    """ann and cy read, bob waits to write and was passed, di waits to read."""
    return room_with(3, 1, "come ann read", "come bob write", "come cy read",
                     "come di read")


ROOMS = (lambda: Room(1, 0), lambda: Room(MANY, MANY), crowded, written, passed_by)


class RefusalTest(unittest.TestCase):

    def assert_refused(self, room, wanted, deed, *told):
        with self.subTest(deed=deed, told=told):
            kept, handed_in = told_of(room), copy.deepcopy(told)
            self.assertIs(done(room, deed, *told), wanted)
            self.assertEqual(told_of(room), kept)
            self.assertEqual(told, handed_in)

    def test_come_with_no_name(self):
        for name in NO_NAMES:
            for wish in ("read", "write"):
                for made in ROOMS:
                    self.assert_refused(made(), errors.BadName, "come", name, wish)

    def test_come_with_no_wish(self):
        for wish in NO_WISHES:
            for made in ROOMS:
                self.assert_refused(made(), errors.BadWish, "come", "zoe", wish)

    def test_come_with_no_name_and_no_wish(self):
        for name, wish in itertools.product(NO_NAMES, NO_WISHES):
            self.assertIs(done(written(), "come", name, wish), errors.BadName)

    def test_come_with_a_known_name_and_no_wish(self):
        for name in ("ann", "bob", "cy", "di"):
            for wish in NO_WISHES:
                self.assert_refused(crowded(), errors.BadWish, "come", name, wish)

    def test_come_known(self):
        for name in ("ann", "bob", "cy", "di"):
            for wish in ("read", "write"):
                for made in (crowded, passed_by):
                    self.assert_refused(made(), errors.Known, "come", name, wish)
        for name in ("ann", "bob", "cy"):
            for wish in ("read", "write"):
                self.assert_refused(written(), errors.Known, "come", name, wish)

    def test_what_is_no_name_is_a_stranger(self):
        for name in NO_NAMES:
            for made in ROOMS:
                for deed in ("leave", "ask", "ease", "passed"):
                    self.assert_refused(made(), errors.Stranger, deed, name)

    def test_a_name_that_nobody_has_is_a_stranger(self):
        for name in ("zoe", "an", "annn", "a", "nna", "0", "read", "write", "none"):
            for made in ROOMS:
                for deed in ("leave", "ask", "ease", "passed"):
                    self.assert_refused(made(), errors.Stranger, deed, name)

    def test_who_went_out_is_a_stranger(self):
        room = room_with(2, 1, "come ann read", "come bob write", "come cy write",
                         "leave ann", "leave cy")
        for name in ("ann", "cy"):
            for deed in ("leave", "ask", "ease", "passed"):
                self.assert_refused(room, errors.Stranger, deed, name)

    def test_ask_and_ease_outside(self):
        for made, names in ((crowded, ("cy", "di")), (written, ("bob", "cy")),
                            (passed_by, ("bob", "di"))):
            for name in names:
                self.assert_refused(made(), errors.Outside, "ask", name)
                self.assert_refused(made(), errors.Outside, "ease", name)

    def test_ask_writes(self):
        self.assert_refused(written(), errors.Writes, "ask", "ann")
        room = room_with(2, 1, "come ann read", "ask ann")
        self.assert_refused(room, errors.Writes, "ask", "ann")

    def test_ask_asked(self):
        self.assert_refused(crowded(), errors.Asked, "ask", "bob")
        # The asker itself, once more.
        self.assert_refused(crowded(), errors.Asked, "ask", "ann")

    def test_ask_of_strangers_and_those_outside_while_somebody_has_asked(self):
        self.assert_refused(crowded(), errors.Stranger, "ask", "zoe")
        self.assert_refused(crowded(), errors.Stranger, "ask", ["ann"])
        self.assert_refused(crowded(), errors.Outside, "ask", "cy")
        self.assert_refused(crowded(), errors.Outside, "ask", "di")

    def test_ease_reads(self):
        self.assert_refused(crowded(), errors.Reads, "ease", "ann")
        self.assert_refused(crowded(), errors.Reads, "ease", "bob")
        self.assert_refused(passed_by(), errors.Reads, "ease", "ann")
        self.assert_refused(passed_by(), errors.Reads, "ease", "cy")
        room = written()
        room.ease("ann")
        self.assert_refused(room, errors.Reads, "ease", "ann")

    def test_passed_inside(self):
        for made, names in ((crowded, ("ann", "bob")), (written, ("ann",)),
                            (passed_by, ("ann", "cy"))):
            for name in names:
                self.assert_refused(made(), errors.Inside, "passed", name)

    def test_what_is_refused_changes_nothing_later_either(self):
        for made in ROOMS:
            room, twin = made(), made()
            for thing in NO_NAMES:
                done(room, "come", thing, "read")
                for deed in ("leave", "ask", "ease", "passed"):
                    done(room, deed, thing)
            for name in ("ann", "bob", "cy", "di"):
                done(room, "come", name, "sleep")
                done(room, "passed", name)
            for deed in (("come", "eve", "read"), ("leave", "ann"),
                         ("leave", "bob"), ("come", "flo", "write"),
                         ("leave", "cy"), ("leave", "di"), ("ask", "eve")):
                self.assertEqual(done(room, *deed), done(twin, *deed))
                self.assertEqual(told_of(room), told_of(twin))


class DeedTest(unittest.TestCase):

    def test_come_goes_to_the_end(self):
        room = room_with(1, 5, "come ann write")
        for name, wish in (("bob", "read"), ("cy", "write"), ("di", "read"),
                           ("a", "write"), ("0", "read"), ("z" * 12, "read")):
            self.assertEqual(room.come(name, wish), [])
            self.assertEqual(room.line()[-1], (name, wish))
            self.assertEqual(room.passed(name), 0)
        self.assertEqual([name for name, _ in room.line()],
                         ["bob", "cy", "di", "a", "0", "z" * 12])

    def test_who_went_out_may_come_again(self):
        room = room_with(2, 1, "come ann read", "come bob write", "come cy read")
        self.assertEqual(room.passed("bob"), 1)
        self.assertEqual(room.leave("bob"), [])
        self.assertEqual(room.come("bob", "write"), [])
        self.assertEqual(room.passed("bob"), 0)
        self.assertEqual(room.leave("ann"), [])
        self.assertEqual(room.come("ann", "read"), [("ann", "read")])
        self.assertEqual(room.passed("bob"), 1)
        self.assertEqual(room.readers(), ["cy", "ann"])

    def test_who_went_out_may_come_with_the_other_wish(self):
        room = room_with(2, 1, "come ann read", "leave ann")
        self.assertEqual(room.come("ann", "write"), [("ann", "write")])
        self.assertEqual(room.leave("ann"), [])
        self.assertEqual(room.come("ann", "read"), [("ann", "read")])

    def test_leave_the_room(self):
        room = written()
        self.assertEqual(room.leave("ann"), [("bob", "read")])
        self.assertIsNone(room.writer())
        self.assertEqual(room.leave("bob"), [("cy", "write")])
        self.assertEqual(room.readers(), [])
        self.assertEqual(room.leave("cy"), [])
        self.assertIsNone(room.writer())
        self.assertEqual(room.line(), [])

    def test_leave_the_line_from_the_first_a_middle_and_the_last_place(self):
        for gone in range(4):
            room = room_with(1, 5, "come ann write", "come a read",
                             "come b write", "come c read", "come d write")
            line = room.line()
            self.assertEqual(room.leave("abcd"[gone]), [])
            del line[gone]
            self.assertEqual(room.line(), line)
            self.assertEqual(room.writer(), "ann")
            assert_right(self, room)

    def test_how_often_the_others_were_passed_stays(self):
        for gone in range(4):
            room = room_with(9, 3, "come ann read", "come w0 write",
                             "come a read", "come w1 write", "come b read",
                             "come w2 write", "come c read", "come w3 write")
            names = ["w0", "w1", "w2", "w3"]
            passed = [3, 2, 1, 0]
            self.assertEqual([room.passed(name) for name in names], passed)
            self.assertEqual(room.leave(names[gone]), [])
            del names[gone], passed[gone]
            self.assertEqual([room.passed(name) for name in names], passed)
            # Who goes out of the room changes that as little.
            room.leave("a")
            self.assertEqual([room.passed(name) for name in names], passed)

    def test_who_leaves_the_line_may_let_others_begin(self):
        room = passed_by()
        self.assertEqual(room.leave("bob"), [("di", "read")])
        room = room_with(3, 0, "come ann read", "come v write", "come a read",
                         "come b read", "come c read")
        self.assertEqual(room.leave("v"), [("a", "read"), ("b", "read")])
        self.assertEqual(room.line(), [("c", "read")])
        # From a middle place: the one who was passed often enough is gone.
        room = room_with(9, 1, "come ann read", "come w write", "come a read",
                         "come v write", "come b read")
        self.assertEqual((room.passed("w"), room.passed("v")), (1, 0))
        self.assertEqual(room.leave("w"), [("b", "read")])
        self.assertEqual(room.passed("v"), 1)
        # From the last place, where nobody can begin by that.
        room = passed_by()
        self.assertEqual(room.leave("di"), [])
        self.assertEqual(room.passed("bob"), 1)

    def test_who_leaves_the_line_lets_nobody_begin_beside_who_asked(self):
        room = room_with(5, 0, "come ann read", "come bob read", "ask ann",
                         "come cy write", "come di read")
        self.assertEqual(room.leave("cy"), [])
        self.assertEqual(room.line(), [("di", "read")])
        self.assertEqual(room.asker(), "ann")

    def test_ask(self):
        room = room_with(3, 1, "come ann read", "come bob read")
        self.assertEqual(room.ask("bob"), [])
        self.assertEqual(room.asker(), "bob")
        self.assertEqual(room.readers(), ["ann", "bob"])
        self.assertIsNone(room.writer())
        self.assertEqual(room.leave("ann"), [("bob", "write")])
        self.assertEqual((room.asker(), room.writer(), room.readers()),
                         (None, "bob", []))

    def test_who_had_asked_and_goes_out_has_no_longer_asked(self):
        room = crowded()
        self.assertEqual(room.leave("ann"), [("di", "read")])
        self.assertIsNone(room.asker())
        self.assertEqual(room.readers(), ["bob", "di"])
        self.assertEqual(room.passed("cy"), 1)
        room = room_with(3, 1, "come ann read", "come bob read", "ask ann",
                         "leave ann")
        self.assertIsNone(room.asker())
        self.assertEqual(room.ask("bob"), [("bob", "write")])
        self.assertEqual(room.come("ann", "read"), [])
        self.assertEqual(room.leave("bob"), [("ann", "read")])
        self.assertIsNone(room.asker())

    def test_another_one_goes_out_and_who_asked_has_still_asked(self):
        room = room_with(5, 1, "come ann read", "come bob read", "come cy read",
                         "come di write", "ask bob")
        self.assertEqual(room.leave("di"), [])
        self.assertEqual(room.asker(), "bob")
        self.assertEqual(room.leave("ann"), [])
        self.assertEqual(room.asker(), "bob")
        self.assertIs(done(room, "ask", "cy"), errors.Asked)

    def test_the_asker_is_alone_where_the_others_wait(self):
        room = room_with(2, 0, "come ann read", "come bob write",
                         "come cy read", "come di write")
        self.assertEqual(room.ask("ann"), [("ann", "write")])
        self.assertEqual(len(room.line()), 3)
        self.assertEqual(room.ease("ann"), [])
        self.assertEqual(room.readers(), ["ann"])
        self.assertEqual(room.leave("ann"), [("bob", "write")])

    def test_ease(self):
        room = room_with(3, 1, "come ann write", "come bob read",
                         "come cy write", "come di read", "come ed read")
        self.assertEqual(room.ease("ann"), [("bob", "read"), ("di", "read")])
        self.assertIsNone(room.writer())
        self.assertEqual(room.readers(), ["ann", "bob", "di"])
        self.assertEqual(room.line(), [("cy", "write"), ("ed", "read")])
        self.assertEqual(room.passed("cy"), 1)
        room = room_with(3, 1, "come ann write")
        self.assertEqual(room.ease("ann"), [])
        self.assertEqual(room.readers(), ["ann"])

    def test_ease_takes_a_seat(self):
        room = room_with(1, 5, "come ann write", "come bob read")
        self.assertEqual(room.ease("ann"), [])
        self.assertEqual(room.line(), [("bob", "read")])
        self.assertEqual(room.leave("ann"), [("bob", "read")])

    def test_who_eases_passes_nobody(self):
        room = room_with(3, 1, "come ann write", "come bob write")
        self.assertEqual(room.ease("ann"), [])
        self.assertEqual(room.passed("bob"), 0)
        self.assertEqual(room.come("cy", "read"), [("cy", "read")])
        self.assertEqual(room.passed("bob"), 1)

    def test_who_eased_may_ask_and_ease_again(self):
        room = room_with(3, 1, "come ann write")
        for _ in range(3):
            self.assertEqual(room.ease("ann"), [])
            self.assertEqual(room.ask("ann"), [("ann", "write")])
        self.assertEqual(len(room.journal()), 2 + 3 * 3)

    def test_each_refusal_is_of_its_class_alone(self):
        for made, wanted, *deed in (
                (written, errors.BadName, "come", "Ann", "read"),
                (written, errors.BadWish, "come", "zoe", "look"),
                (written, errors.Known, "come", "ann", "read"),
                (written, errors.Stranger, "leave", "zoe"),
                (written, errors.Outside, "ask", "bob"),
                (written, errors.Writes, "ask", "ann"),
                (crowded, errors.Asked, "ask", "bob"),
                (crowded, errors.Reads, "ease", "bob"),
                (crowded, errors.Inside, "passed", "bob")):
            with self.assertRaises(errors.RoomError) as caught:
                getattr(made(), deed[0])(*deed[1:])
            self.assertIs(type(caught.exception), wanted)
            self.assertIsInstance(caught.exception, ValueError)


if __name__ == "__main__":
    unittest.main()
