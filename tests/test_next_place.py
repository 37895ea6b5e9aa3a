"""Tests of point 6, rules (b) and (c): `next_place` of readwriteroom/rules.py."""

import copy
import itertools
import unittest

from readwriteroom.rules import next_place

MANY = 10 ** 9


def reader(name):
    return (name, "read", 0)


def writer(name, passed=0):
    return (name, "write", passed)


def place_by_the_words(line, seats, patience, reading, writes):
    """The place by rules (b) and (c), as literally as they can be written."""
    if not line:
        return None
    nobody_in_the_room = reading == 0 and not writes
    a_reader_can = not writes and reading < seats
    first_wishes_to_write = line[0][1] == "write"
    if nobody_in_the_room if first_wishes_to_write else a_reader_can:
        return 0
    if not (first_wishes_to_write and reading > 0):
        return None
    places = [at for at in range(len(line)) if line[at][1] == "read"]
    if not places or not a_reader_can:
        return None
    if all(line[at][2] < patience for at in range(places[0])):
        return places[0]
    return None


class NextPlaceTest(unittest.TestCase):

    def assert_place(self, wanted, line, seats=3, patience=2, reading=0,
                     writes=False):
        before = copy.deepcopy(line)
        with self.subTest(line=line, seats=seats, patience=patience,
                          reading=reading, writes=writes):
            found = next_place(line, seats, patience, reading, writes)
            self.assertEqual(found, wanted)
            self.assertIs(type(found), type(wanted))
            self.assertEqual(line, before)

    def test_defined_in_the_file(self):
        self.assertEqual(next_place.__module__, "readwriteroom.rules")
        self.assertEqual(next_place(
            line=[reader("ann")], seats=1, patience=0, reading=0,
            writes=False), 0)

    def test_the_empty_line(self):
        for seats in (1, 3, MANY):
            for patience in (0, 1, MANY):
                self.assert_place(None, [], seats, patience, 0, False)
                self.assert_place(None, [], seats, patience, 1, False)
                self.assert_place(None, [], seats, patience, 0, True)

    def test_the_first_can_begin(self):
        for patience in (0, 1, MANY):
            self.assert_place(0, [reader("ann")], patience=patience)
            self.assert_place(0, [writer("ann")], patience=patience)
            self.assert_place(0, [reader("ann")], 3, patience, 2)
            self.assert_place(0, [reader("ann")], MANY, patience, MANY - 1)
        self.assert_place(0, [reader("ann"), writer("bob"), reader("cy")])
        self.assert_place(0, [writer("ann"), reader("bob"), writer("cy")])
        self.assert_place(0, [reader("ann"), reader("bob")], reading=1)

    def test_a_first_writer_begins_alone_however_often_passed(self):
        for passed in (0, 1, 2, 3, MANY):
            for patience in (0, 1, 2, MANY):
                self.assert_place(
                    0, [writer("ann", passed), reader("bob")],
                    patience=patience)

    def test_a_reader_at_the_second_place(self):
        self.assert_place(1, [writer("ann"), reader("bob")], reading=1)
        self.assert_place(
            1, [writer("ann"), reader("bob"), reader("cy")], reading=2)
        self.assert_place(
            1, [writer("ann"), reader("bob"), writer("cy"), reader("di")],
            reading=1)

    def test_a_reader_at_a_later_place(self):
        self.assert_place(
            2, [writer("ann"), writer("bob"), reader("cy")], reading=1)
        self.assert_place(
            3, [writer("ann"), writer("bob"), writer("cy"), reader("di"),
                reader("ed")], reading=2)
        line = [writer("w" + str(at)) for at in range(500)]
        self.assert_place(500, line + [reader("ann")], reading=1)

    def test_no_reader_in_the_line(self):
        self.assert_place(None, [writer("ann")], reading=1)
        self.assert_place(None, [writer("ann"), writer("bob")], reading=1)
        self.assert_place(
            None, [writer("ann"), writer("bob")], MANY, MANY, 1)

    def test_names_play_no_part(self):
        self.assert_place(1, [writer("read"), reader("write")], reading=1)
        self.assert_place(
            2, [writer("read"), writer("bob"), reader("write")], reading=1)

    def test_one_ahead_was_passed_one_time_fewer_than_patience(self):
        for patience in (1, 2, 3, MANY):
            line = [writer("ann", patience - 1), reader("bob")]
            self.assert_place(1, line, 3, patience, 1)

    def test_one_ahead_was_passed_as_often_as_patience(self):
        for patience in (0, 1, 2, 3, MANY):
            line = [writer("ann", patience), reader("bob")]
            self.assert_place(None, line, 3, patience, 1)
            line = [writer("ann", patience + 1), reader("bob")]
            self.assert_place(None, line, 3, patience, 1)

    def test_the_one_passed_most_at_each_place_ahead(self):
        for most, wanted in ((1, 3), (2, None), (3, None)):
            for at in range(3):
                line = [writer("ann"), writer("bob"), writer("cy"),
                        reader("di"), reader("ed")]
                line[at] = writer(line[at][0], most)
                self.assert_place(wanted, line, reading=1)

    def test_one_behind_the_reader_is_not_passed(self):
        self.assert_place(
            1, [writer("ann", 1), reader("bob"), writer("cy", 2),
                reader("di")], reading=1)

    def test_no_reader_behind_the_first_reader_is_taken_instead(self):
        self.assert_place(
            None, [writer("ann", 2), reader("bob"), reader("cy")], reading=1)

    def test_patience_nought(self):
        self.assert_place(None, [writer("ann"), reader("bob")], 3, 0, 1)
        self.assert_place(
            None, [writer("ann"), writer("bob"), reader("cy")], 3, 0, 2)
        self.assert_place(0, [reader("ann"), writer("bob")], 3, 0, 1)
        self.assert_place(0, [writer("ann"), reader("bob")], 3, 0, 0)

    def test_all_seats_taken(self):
        for seats in (1, 2, MANY):
            for patience in (0, 1, MANY):
                self.assert_place(None, [reader("ann")], seats, patience,
                                  seats)
                self.assert_place(None, [writer("ann")], seats, patience,
                                  seats)
                self.assert_place(None, [writer("ann"), reader("bob")],
                                  seats, patience, seats)
                self.assert_place(None, [reader("ann"), writer("bob")],
                                  seats, patience, seats)

    def test_the_last_free_seat(self):
        line = [writer("ann"), reader("bob")]
        self.assert_place(1, line, 2, 1, 1)
        self.assert_place(1, line, MANY, MANY, MANY - 1)

    def test_somebody_writes(self):
        for seats in (1, 2, MANY):
            for patience in (0, 1, MANY):
                for line in ([reader("ann")], [writer("ann")],
                             [writer("ann"), reader("bob")],
                             [reader("ann"), writer("bob")]):
                    self.assert_place(None, line, seats, patience, 0, True)

    def test_every_short_line_against_the_words(self):
        kinds = [("read", 0)] + [("write", passed) for passed in range(4)]
        rooms = [(seats, reading, False)
                 for seats in (1, 2, 3) for reading in range(seats + 1)]
        rooms += [(seats, 0, True) for seats in (1, 2, 3)]
        for length in range(5):
            for chosen in itertools.product(kinds, repeat=length):
                line = [("p" + str(at), wish, passed)
                        for at, (wish, passed) in enumerate(chosen)]
                self.assert_as_the_words_say(line, rooms)

    def assert_as_the_words_say(self, line, rooms):
        before = list(line)
        for seats, reading, writes in rooms:
            for patience in range(4):
                told = (line, seats, patience, reading, writes)
                self.assertEqual(
                    next_place(*told), place_by_the_words(*told), told)
        self.assertEqual(line, before)


if __name__ == "__main__":
    unittest.main()
