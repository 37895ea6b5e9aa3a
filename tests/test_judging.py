"""Tests of point 15: `judged` and `room_of`."""

import copy
import itertools
import random
import unittest

from readwriteroom.errors import BadJournal, BadNumber
from readwriteroom.judging import judged, room_of
from readwriteroom.room import Room

from plain_room import PlainRoom, WISHES, judged_plainly
from rooms import (MANY, NO_NAMES, NO_WISHES, SIZES, assert_right, done,
                   drawn_deed, drawn_room, names_up_to, room_with, told_of)

NO_ROWS = (
    (), ("came",), ("left",), ("begins",), ("ann",), ("came", "zoe"),
    ("begins", "ann"), ("left", "ann", "read"),
    ("asked", "ann", "write"), ("eased", "ann", "read"),
    ("came", "zoe", "read", "read"), ("came", "zoe", "read", "", ""),
    ("left", "ann", ""), ("left", "ann", None),
    ("come", "zoe", "read"), ("Came", "zoe", "read"), ("came ", "zoe", "read"),
    ("passed", "ann"), ("leave", "ann"), ("ask", "ann"), ("", "ann"),
    ("left\n", "ann"), ("zoe", "came", "read"), ("ann", "left"),
    ("read", "zoe", "came"), ("came", "read", "zoe"),
    (None, "ann"), (0, "ann"), (True, "ann"), (["left"], "ann"),
    ({}, "ann"), (("left",), "ann"), (b"left", "ann"),
    (["came"], "zoe", "read"), ({"came": 1}, "zoe", "read"), ({"came"}, "zoe", "read"),
    ["left", "ann"], ["came", "zoe", "read"], [], [("left", "ann")],
    "left ann", "came zoe read", "", "left", b"left ann", None, 0, 1, -1, True,
    False, {}, {"left": "ann"}, {"left", "ann"}, (("left", "ann"),),
)


def room_of_three():
    """ann and cy read, bob waits and was passed: six rows."""
    return room_with(3, 1, "come ann read", "come bob write", "come cy read",
                     "come di read")


def rows_of(text):
    return [tuple(row.split()) for row in text.split(", ") if row]


class JudgeCase(unittest.TestCase):

    def assert_judged(self, wanted, seats, patience, rows):
        kept = copy.deepcopy(rows)
        found = judged(seats, patience, rows)
        self.assertEqual(found, wanted, rows)
        self.assertIs(type(found), type(wanted))
        self.assertEqual(rows, kept)
        if wanted is None:
            room = room_of(seats, patience, rows)
            self.assertEqual(room.journal(), rows)
        else:
            with self.assertRaises(BadJournal) as caught:
                room_of(seats, patience, rows)
            self.assertIs(type(caught.exception), BadJournal)
        self.assertEqual(rows, kept)

    def assert_text(self, wanted, seats, patience, text):
        with self.subTest(text=text):
            self.assert_judged(wanted, seats, patience, rows_of(text))

    def assert_as_plain(self, seats, patience, rows):
        wanted = judged_plainly(seats, patience, rows)
        self.assert_judged(wanted, seats, patience, rows)
        return wanted


class JudgedTest(JudgeCase):

    def test_defined_in_the_file_with_their_arguments(self):
        for found in (judged, room_of):
            self.assertEqual(found.__module__, "readwriteroom.judging")
        self.assertIsNone(judged(seats=1, patience=0, rows=[]))
        self.assertIs(type(room_of(seats=1, patience=0, rows=[])), Room)

    def test_the_empty_list_is_right(self):
        for seats, patience in SIZES:
            self.assert_judged(None, seats, patience, [])
            self.assertEqual(told_of(room_of(seats, patience, [])),
                             told_of(Room(seats, patience)))

    def test_told_cases(self):
        self.assert_text(None, 1, 0, "came ann read, begins ann read")
        self.assert_text(1, 1, 0, "came ann read")
        self.assert_text(1, 1, 0, "came ann read, begins ann write")
        self.assert_text(1, 1, 0, "came ann read, begins bob read")
        self.assert_text(1, 1, 0, "came ann read, left ann")
        self.assert_text(1, 1, 0, "came ann read, came bob read")
        self.assert_text(2, 1, 0, "came ann read, begins ann read, begins ann read")
        self.assert_text(2, 1, 0, "came ann read, begins ann read, came ann read")
        self.assert_text(2, 1, 0, "came ann read, begins ann read, came ann write")
        self.assert_text(0, 1, 0, "begins ann read")
        self.assert_text(0, 1, 0, "begins ann write, came ann write")
        self.assert_text(0, 1, 0, "left ann")
        self.assert_text(0, 1, 0, "asked ann")
        self.assert_text(0, 1, 0, "eased ann")
        self.assert_text(1, 2, 0, "came ann read, begins bob read, came ann read")

    def test_seats_and_patience_count(self):
        text = ("came ann read, begins ann read, came bob write, "
                "came cy read, begins cy read")
        self.assert_text(None, 2, 1, text)
        self.assert_text(None, MANY, MANY, text)
        self.assert_text(4, 1, 1, text)
        self.assert_text(4, 2, 0, text)
        shorter = "came ann read, begins ann read, came bob write, came cy read"
        self.assert_text(4, 2, 1, shorter)
        self.assert_text(None, 1, 1, shorter)
        self.assert_text(None, 2, 0, shorter)

    def test_the_end_cut_off_within_those_who_begin(self):
        text = ("came w write, begins w write, came a read, came b read, "
                "came c read, left w, begins a read, begins b read, begins c read")
        rows = rows_of(text)
        for many, wanted in ((9, None), (8, 8), (7, 7), (6, 6), (5, None),
                             (4, None), (3, None), (2, None), (1, 1), (0, None)):
            self.assert_judged(wanted, 3, 0, rows[:many])
        self.assert_judged(None, 2, 0, rows[:8])
        self.assert_judged(8, 2, 0, rows)

    def test_those_who_begin_in_another_order(self):
        text = ("came w write, begins w write, came a read, came b read, left w, "
                "begins b read, begins a read")
        self.assert_text(5, 2, 0, text)

    def test_deeds_that_would_be_refused(self):
        start = ("came ann read, begins ann read, came bob read, begins bob read, "
                 "came cy write, asked ann, ")
        for deed in ("came ann read", "came cy write", "came cy read", "left zoe",
                     "asked zoe", "asked cy", "asked ann", "asked bob",
                     "eased zoe", "eased cy", "eased ann", "eased bob",
                     "begins cy write", "begins ann write", "begins ann read"):
            self.assert_text(6, 2, 1, start + deed)
        for deed in ("came di read", "came di write", "left cy"):
            self.assert_text(None, 2, 1, start + deed)
        for deed in ("left bob", "left ann, asked bob"):
            begins = ", begins ann write" if deed == "left bob" else ", begins bob write"
            self.assert_text(None, 2, 1, start + deed + begins)
            rows = rows_of(start + deed)
            self.assert_judged(len(rows), 2, 1, rows)
        start = "came ann write, begins ann write, "
        self.assert_text(2, 2, 1, start + "asked ann")
        self.assert_text(None, 2, 1, start + "eased ann")
        self.assert_text(3, 2, 1, start + "eased ann, eased ann")
        self.assert_text(3, 2, 1, start + "left ann, left ann")

    def test_things_that_are_no_rows(self):
        rows = room_of_three().journal()
        self.assertEqual(len(rows), 6)
        for thing in NO_ROWS:
            for at in range(len(rows) + 1):
                with self.subTest(thing=thing, at=at):
                    self.assert_judged(at, 3, 1, rows[:at] + [thing])
                    self.assert_judged(at, 3, 1, rows[:at] + [thing] + rows[at:])
                    self.assert_judged(at, 3, 1, rows[:at] + [thing] + rows[at + 1:])

    def test_names_and_wishes_that_are_none(self):
        rows = room_of_three().journal()
        for at in (0, 1, 4, 6):
            wrong = [("came", name, "read") for name in NO_NAMES]
            wrong += [("begins", name, "read") for name in NO_NAMES]
            wrong += [(word, name) for name in NO_NAMES
                      for word in ("left", "asked", "eased")]
            wrong += [("came", "zoe", wish) for wish in NO_WISHES]
            wrong += [("begins", "ann", wish) for wish in NO_WISHES]
            for row in wrong:
                with self.subTest(row=row, at=at):
                    self.assert_judged(at, 3, 1, rows[:at] + [row] + rows[at:])

    def test_the_first_of_several_wrong_rows(self):
        rows = room_of_three().journal()
        for first, second in itertools.combinations(range(6), 2):
            damaged = list(rows)
            damaged[first] = damaged[second] = None
            self.assert_judged(first, 3, 1, damaged)

    def test_bad_numbers_ahead_of_all_else(self):
        right = room_of_three().journal()
        for rows in ([], right, right[:1], [None], [[]], [("begins", "ann", "read")]):
            for seats, patience in (
                    (0, 1), (-1, 1), (MANY + 1, 1), (True, 1), (False, 1),
                    (None, 1), ("3", 1), ([], 1), ((), 1), (3, -1),
                    (3, MANY + 1), (3, True), (3, False), (3, None), (3, "1"),
                    (3, []), (3, ()), (0, -1), (None, None), (10 ** 40, 1)):
                for asked in (judged, room_of):
                    kept = copy.deepcopy(rows)
                    with self.assertRaises(BadNumber) as caught:
                        asked(seats, patience, rows)
                    self.assertIs(type(caught.exception), BadNumber)
                    self.assertEqual(rows, kept)

    def test_every_list_over_two_names(self):
        alphabet = [(word, name, wish) for word in ("came", "begins")
                    for name in "ab" for wish in WISHES]
        alphabet += [(word, name) for word in ("left", "asked", "eased")
                     for name in "ab"]
        for seats, patience in ((1, 0), (1, 1), (2, 0), (2, 1)):
            right, started = self.all_journals(seats, patience, alphabet, 6)
            for rows in started:
                if len(rows) > 5:
                    continue
                wanted = None if rows in right else len(rows)
                self.assertEqual(judged(seats, patience, list(rows)), wanted, rows)
                for row in alphabet:
                    longer = rows + (row,)
                    if longer not in started:
                        for tail in ((), (row,), (alphabet[0],)):
                            self.assertEqual(judged(
                                seats, patience, list(longer + tail)), len(rows))

    def all_journals(self, seats, patience, alphabet, most):
        """Every right list of so many deeds, and every beginning of one."""
        right, started, last = {()}, {()}, [PlainRoom(seats, patience)]
        deeds = {"came": "come", "left": "leave", "asked": "ask", "eased": "ease"}
        deeds = [(deeds[row[0]],) + row[1:] for row in alphabet if row[0] in deeds]
        for _ in range(most):
            following = []
            for plain, deed in itertools.product(last, deeds):
                if len(plain.rows) < most and plain.refusal(*deed) is None:
                    again = copy.deepcopy(plain)
                    again.do(*deed)
                    following.append(again)
                    rows = tuple(again.rows)
                    right.add(rows)
                    started.update(rows[:many] for many in range(len(rows) + 1))
            last = following
        return right, started


class DrawnJournalTest(JudgeCase):

    def drawn(self, seed, deeds=40, many=8):
        chance = random.Random(seed)
        seats, patience = chance.choice(SIZES)
        plain = drawn_room(chance, seats, patience, names_up_to(many), deeds, 0.6)
        return chance, seats, patience, plain

    def test_drawn_journals_and_how_they_go_on(self):
        for seed in range(60):
            chance, seats, patience, plain = self.drawn(seed)
            rows = list(plain.rows)
            self.assert_judged(None, seats, patience, rows)
            room = room_of(seats, patience, rows)
            self.assertIs(type(room), Room)
            self.assertEqual(told_of(room), plain.told())
            for _ in range(40):
                deed, *told = drawn_deed(chance, plain, names_up_to(8), 0.6)
                refusal = plain.refusal(deed, *told)
                found = done(room, deed, *told)
                self.assertEqual(
                    found, refusal or plain.do(deed, *told))
                self.assertEqual(told_of(room), plain.told())
            assert_right(self, room)

    def test_each_beginning_of_a_drawn_journal(self):
        cut_within = 0
        for seed in range(25):
            _, seats, patience, plain = self.drawn(seed)
            for many in range(len(plain.rows)):
                rows = plain.rows[:many]
                within = plain.rows[many][0] == "begins"
                self.assert_judged(many if within else None, seats, patience, rows)
                cut_within += within
        self.assertGreater(cut_within, 100)

    def test_one_row_damaged(self):
        for seed in range(25):
            chance, seats, patience, plain = self.drawn(seed, 30)
            rows = plain.rows
            found = {}
            for at, row in enumerate(rows):
                for kind, changed in self.damages(chance, rows, at):
                    wanted = self.assert_as_plain(seats, patience, changed)
                    found.setdefault(kind, []).append(wanted)
                    self.assertTrue(wanted is None or wanted >= at, (kind, at))
            for kind in ("out", "twice", "exchanged", "name", "wish", "more"):
                self.assertTrue([at for at in found[kind] if at is not None], kind)

    def damages(self, chance, rows, at):
        """Lists of rows that differ from these from one place on."""
        head, row, rest = rows[:at], rows[at], rows[at + 1:]
        other = chance.choice([name for name in names_up_to(9) if name != row[1]])
        yield "out", head + rest
        yield "twice", head + [row, row] + rest
        yield "exchanged", head + rest[:1] + [row] + rest[1:]
        yield "name", head + [(row[0], other) + row[2:]] + rest
        yield "stranger", head + [(row[0], "zoe") + row[2:]] + rest
        if len(row) == 3:
            wish = "write" if row[2] == "read" else "read"
            yield "wish", head + [row[:2] + (wish,)] + rest
        more = chance.choice((
            ("came", other, "read"), ("came", other, "write"), ("left", other),
            ("asked", other), ("eased", other), ("begins", other, "read"),
            ("begins", other, "write"), ("came", "zoe", "write"), ("left", "zoe")))
        yield "more", head + [more, row] + rest
        for word in ("came", "left", "asked", "eased", "begins", "went"):
            yield "word", head + [(word,) + row[1:]] + rest

    def test_one_row_more_at_the_end(self):
        for seed in range(40):
            _, seats, patience, plain = self.drawn(seed)
            rows = plain.rows
            for name in names_up_to(9):
                for row in (("begins", name, "read"), ("begins", name, "write")):
                    self.assert_judged(len(rows), seats, patience, rows + [row])
                for row in (("came", name, "read"), ("came", name, "write"),
                            ("left", name), ("asked", name), ("eased", name)):
                    self.assert_as_plain(seats, patience, rows + [row])

    def test_another_size(self):
        differ = 0
        for seed in range(40):
            _, seats, patience, plain = self.drawn(seed)
            for size in SIZES:
                differ += self.assert_as_plain(*size, plain.rows) is not None
        self.assertGreater(differ, 100)


class OwnTest(unittest.TestCase):

    def test_what_is_done_to_the_rows_changes_nothing_in_the_room(self):
        for spoil in (list.clear, list.reverse, lambda rows: rows.append("mine"),
                      lambda rows: rows.__setitem__(0, ("left", "ann"))):
            rows = room_of_three().journal()
            room, kept = room_of(3, 1, rows), list(rows)
            spoil(rows)
            self.assertEqual(room.journal(), kept)
            self.assertEqual(told_of(room), told_of(room_of_three()))
            self.assertEqual(room.leave("bob"), [("di", "read")])

    def test_what_is_done_in_the_room_changes_no_rows(self):
        rows = room_of_three().journal()
        kept = list(rows)
        room = room_of(3, 1, rows)
        room.leave("ann")
        room.journal().clear()
        self.assertEqual(rows, kept)
        self.assertEqual(len(room.journal()), 7)

    def test_two_rooms_of_one_list(self):
        rows = room_of_three().journal()
        one, other = room_of(3, 1, rows), room_of(3, 1, rows)
        self.assertIsNot(one, other)
        kept = told_of(other)
        one.leave("bob")
        one.leave("ann")
        self.assertEqual(told_of(other), kept)
        self.assertIsNone(judged(3, 1, rows))


if __name__ == "__main__":
    unittest.main()
