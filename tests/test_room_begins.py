"""Tests of points 4 to 8: who begins behind a deed, in told cases."""

import unittest

from readwriteroom.room import Room

from rooms import MANY, room_with, told_of


def pairs(text):
    """The pairs that a text such as `ann read, bob write` tells."""
    return [tuple(part.split()) for part in text.split(", ") if part]


class BeginsTest(unittest.TestCase):

    def assert_run(self, room, steps):
        """Each step: a deed, and the pairs that it has to give."""
        for deed, wanted in steps:
            with self.subTest(deed=deed):
                word, *told = deed.split()
                found = getattr(room, word)(*told)
                self.assertIs(type(found), list)
                self.assertEqual(found, pairs(wanted))

    def assert_told(self, room, readers="", writer=None, asker=None, line="",
                    passed=()):
        told = told_of(room)
        self.assertEqual(told["readers"], readers.split())
        self.assertEqual(told["writer"], writer)
        self.assertEqual(told["asker"], asker)
        self.assertEqual(told["line"], pairs(line))
        self.assertEqual(told["passed"], list(passed))
        for times in told["passed"]:
            self.assertIs(type(times), int)

    def test_readers_begin_up_to_the_seats(self):
        for seats in (1, 2, 3, 10):
            room = Room(seats, 5)
            for at in range(seats):
                name = "r" + str(at)
                self.assertEqual(room.come(name, "read"), [(name, "read")])
            self.assertEqual(room.come("late", "read"), [])
            self.assertEqual(room.come("later", "read"), [])
            self.assertEqual(len(room.readers()), seats)
            self.assertEqual(room.leave("r0"), [("late", "read")])
            self.assertEqual(room.readers()[-1], "late")
            self.assertEqual(room.line(), [("later", "read")])

    def test_a_writer_begins_in_an_empty_room_only(self):
        room = Room(3, 1)
        self.assert_run(room, (
            ("come ann write", "ann write"),
            ("come bob write", ""),
            ("leave ann", "bob write"),
            ("leave bob", ""),
            ("come cy read", "cy read"),
            ("come di write", ""),
            ("leave cy", "di write"),
        ))
        self.assert_told(room, writer="di")

    def test_nobody_begins_while_somebody_writes(self):
        room = Room(MANY, MANY)
        self.assert_run(room, (
            ("come ann write", "ann write"),
            ("come bob read", ""),
            ("come cy write", ""),
            ("come di read", ""),
            ("leave bob", ""),
            ("come bob read", ""),
        ))
        self.assert_told(room, writer="ann", passed=(0, 0, 0),
                         line="cy write, di read, bob read")

    def test_several_begin_one_behind_another(self):
        room = room_with(3, 0, "come w write", "come a read", "come b read",
                         "come c read", "come d read")
        self.assert_run(room, (("leave w", "a read, b read, c read"),))
        self.assert_told(room, "a b c", line="d read", passed=(0,))

    def test_a_first_reader_that_has_no_seat_holds_up_the_line(self):
        room = room_with(1, 5, "come a read", "come b read", "come w write")
        self.assert_told(room, "a", line="b read, w write", passed=(0, 0))
        self.assert_run(room, (("leave a", "b read"), ("leave b", "w write")))

    def test_by_b_and_by_c_behind_one_deed(self):
        room = room_with(4, 1, "come x write", "come a read", "come v write",
                         "come b read", "come c read")
        # a by (b), b by (c), and then v was passed often enough.
        self.assert_run(room, (("leave x", "a read, b read"),))
        self.assert_told(room, "a b", line="v write, c read", passed=(1, 0))

    def test_by_c_several_times_behind_one_deed(self):
        room = room_with(9, 3, "come x write", "come a read", "come v write",
                         "come b read", "come w write", "come c read",
                         "come d read", "come e read")
        self.assert_run(room, (("leave x", "a read, b read, c read, d read"),))
        self.assert_told(room, "a b c d",
                         line="v write, w write, e read", passed=(3, 2, 0))

    def test_seats_end_the_passing(self):
        room = room_with(2, MANY, "come x write", "come a read", "come v write",
                         "come b read", "come c read")
        self.assert_run(room, (("leave x", "a read, b read"),))
        self.assert_told(room, "a b", line="v write, c read", passed=(1, 0))
        self.assert_run(room, (("leave a", "c read"),))
        self.assert_told(room, "b c", line="v write", passed=(2,))

    def test_patience_nought_lets_nobody_be_passed(self):
        room = Room(5, 0)
        self.assert_run(room, (
            ("come a read", "a read"),
            ("come v write", ""),
            ("come b read", ""),
            ("come w write", ""),
            ("come c read", ""),
        ))
        self.assert_told(room, "a", passed=(0, 0, 0, 0),
                         line="v write, b read, w write, c read")
        self.assert_run(room, (("leave a", "v write"), ("leave v", "b read"),
                               ("leave b", "w write"), ("leave w", "c read")))

    def test_each_patience_to_its_end(self):
        for patience in (1, 2, 3, 7):
            room = room_with(100, patience, "come a read", "come w write")
            for at in range(patience):
                name = "r" + str(at)
                self.assertEqual(room.passed("w"), at)
                self.assertEqual(room.come(name, "read"), [(name, "read")])
            self.assertEqual(room.passed("w"), patience)
            self.assertEqual(room.come("late", "read"), [])
            self.assertEqual(room.passed("w"), patience)
            self.assertEqual(room.passed("late"), 0)

    def three_ahead(self, often):
        """Patience 2, and three who wait to write, passed as often as told."""
        room = room_with(50, 2, "come a read")
        for at in range(3):
            room.come("w" + str(at), "write")
            # Who comes now passes all those who wait to write already.
            for one in range(often[at] - (often + (0,))[at + 1]):
                name = "r" + str(at) + str(one)
                self.assertEqual(room.come(name, "read"), [(name, "read")])
        self.assertEqual([room.passed("w" + str(at)) for at in range(3)],
                         list(often))
        return room

    def test_nobody_ahead_was_passed_too_often(self):
        for often in ((0, 0, 0), (1, 0, 0), (1, 1, 0), (1, 1, 1)):
            room = self.three_ahead(often)
            self.assertEqual(room.come("z", "read"), [("z", "read")])
            self.assertEqual([room.passed("w" + str(at)) for at in range(3)],
                             [times + 1 for times in often])

    def test_the_first_a_middle_and_the_last_ahead_are_passed_no_more(self):
        for often in ((2, 0, 0), (2, 1, 0), (2, 1, 1), (2, 2, 0), (2, 2, 1),
                      (2, 2, 2)):
            room = self.three_ahead(often)
            self.assertEqual(room.come("z", "read"), [])
            self.assertEqual(room.line()[-1], ("z", "read"))
            self.assertEqual([room.passed("w" + str(at)) for at in range(3)],
                             list(often))
            # As soon as none of those who go on waiting holds it up, z begins.
            held = often.count(2)
            for at in range(held):
                wanted = [("z", "read")] if at == held - 1 else []
                self.assertEqual(room.leave("w" + str(at)), wanted)
            self.assertEqual([room.passed("w" + str(at)) for at in range(held, 3)],
                             [times + 1 for times in often[held:]])

    def test_the_last_of_those_ahead_holds_it_up_when_the_others_are_gone(self):
        room = self.three_ahead((2, 2, 2))
        room.come("z", "read")
        self.assertEqual(room.leave("w1"), [])
        self.assertEqual(room.leave("w0"), [])
        self.assertEqual(room.passed("w2"), 2)
        self.assertEqual(room.leave("w2"), [("z", "read")])

    def test_who_comes_behind_the_reader_is_not_passed(self):
        room = room_with(2, 5, "come a read", "come b read", "come v write",
                         "come c read", "come w write")
        self.assert_run(room, (("leave a", "c read"),))
        self.assert_told(room, "b c", line="v write, w write", passed=(1, 0))

    def test_who_asked_writes_when_alone(self):
        room = room_with(3, 1, "come a read", "come b read", "come c read")
        self.assert_run(room, (
            ("ask b", ""), ("leave a", ""), ("leave c", "b write")))
        self.assert_told(room, writer="b")

    def test_who_asks_alone_writes_at_once(self):
        room = room_with(3, 1, "come a read")
        self.assert_run(room, (("ask a", "a write"),))
        self.assert_told(room, writer="a")

    def test_who_asks_alone_writes_at_once_while_others_wait(self):
        room = room_with(1, 0, "come a read", "come v write", "come b read",
                         "come w write")
        self.assert_run(room, (("ask a", "a write"),))
        self.assert_told(room, writer="a", passed=(0, 0, 0),
                         line="v write, b read, w write")
        room = room_with(1, 9, "come a read", "come b read")
        self.assert_run(room, (("ask a", "a write"),))
        self.assert_told(room, writer="a", line="b read", passed=(0,))

    def test_nobody_begins_beside_who_asked(self):
        room = room_with(9, 9, "come a read", "come b read", "come c read",
                         "ask c")
        self.assert_run(room, (
            ("come d read", ""), ("come v write", ""), ("come e read", ""),
            ("leave v", ""), ("come w write", ""), ("leave a", ""),
            ("leave d", ""), ("come f read", ""),
        ))
        self.assert_told(room, "b c", asker="c", passed=(0, 0, 0),
                         line="e read, w write, f read")
        self.assert_run(room, (("leave b", "c write"),))
        self.assert_told(room, writer="c", passed=(0, 0, 0),
                         line="e read, w write, f read")
        self.assert_run(room, (("ease c", "e read, f read"),))
        self.assert_told(room, "c e f", line="w write", passed=(1,))

    def test_who_asked_and_goes_out_lets_the_others_begin(self):
        room = room_with(4, 1, "come a read", "come b read", "ask a",
                         "come w write", "come c read", "come d read")
        self.assert_run(room, (("leave a", "c read"),))
        self.assert_told(room, "b c", line="w write, d read", passed=(1, 0))

    def test_who_asked_does_not_count_as_passing(self):
        room = room_with(3, 1, "come a read", "come b read", "come w write",
                         "ask a", "leave b")
        self.assert_told(room, writer="a", line="w write", passed=(0,))
        self.assert_run(room, (("leave a", "w write"),))

    def test_who_wrote_by_asking_has_no_longer_asked(self):
        room = room_with(3, 1, "come a read", "ask a", "ease a", "come b read")
        self.assert_told(room, "a b")
        self.assert_run(room, (
            ("ask b", ""), ("leave a", "b write"), ("ease b", "")))
        self.assert_told(room, "b")

    def test_readers_in_the_order_in_which_they_began(self):
        room = room_with(3, 2, "come c read", "come a read", "come b read",
                         "leave a", "come a read", "come d read")
        self.assert_told(room, "c b a", line="d read", passed=(0,))
        self.assert_run(room, (("leave c", "d read"),))
        self.assert_told(room, "b a d")
        room = room_with(3, 2, "come z write", "come a read", "come b read",
                         "ease z")
        self.assert_told(room, "z a b")

    def test_a_room_that_falls_empty_one_by_one_lets_in_all(self):
        room = room_with(2, 1, "come a read", "come v write", "come b read",
                         "come w write", "come c read", "come d read",
                         "come x write", "come e read")
        self.assert_told(room, "a b", passed=(1, 0, 0, 0, 0, 0),
                         line="v write, w write, c read, d read, x write, e read")
        self.assert_run(room, (
            ("leave b", ""), ("leave a", "v write"), ("leave v", "w write"),
            ("leave w", "c read, d read"), ("leave d", "e read"),
            ("leave c", ""), ("leave e", "x write"), ("leave x", ""),
        ))
        self.assert_told(room)


if __name__ == "__main__":
    unittest.main()
