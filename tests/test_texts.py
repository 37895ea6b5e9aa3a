"""Tests of point 16: `told` and `read` of readwriteroom/texts.py."""

import copy
import random
import re
import unittest

from readwriteroom.errors import BadText
from readwriteroom.judging import judged
from readwriteroom.texts import read, told

from rooms import NO_NAMES, NO_WISHES, drawn_room, names_up_to, room_with

EACH_KIND = [
    ("came", "ann", "read"), ("came", "bob", "write"), ("left", "cy"),
    ("asked", "di"), ("eased", "eve"), ("begins", "flo", "read"),
    ("begins", "0123456789ab", "write"),
]
EACH_KIND_TEXT = (
    "came ann read\ncame bob write\nleft cy\nasked di\neased eve\n"
    "begins flo read\nbegins 0123456789ab write\n")

ROW = "(came|begins) [a-z0-9]{1,12} (read|write)\n|(left|asked|eased) [a-z0-9]{1,12}\n"

# Each of them is wrong wherever it stands in a text.
NO_ROWS = (
    "", " ", "\t", "came", "left", "begins", "ann",
    "Came ann read", "came Ann read", "came ann Read", "LEFT ann", "left anN",
    "came  ann read", "came ann  read", "left  ann", " came ann read",
    " left ann", "came ann read ", "left ann ", "  left ann", "left ann  ",
    "came\tann read", "came ann\tread", "\tleft ann", "left ann\t", "left\tann",
    "came ann read\r", "left ann\r", "left\rann",
    "come ann read", "begin ann read", "leave ann", "ask ann", "ease ann",
    "passed ann", "went ann", "eased", "came ann", "begins ann", "came read",
    "left ann read", "asked ann write", "eased ann read", "came ann read read",
    "came ann bob read", "begins ann read write", "left ann bob", "ann read",
    "ann came read", "read ann came", "ann left", "came ann look",
    "begins ann reads", "begins ann wri", "came ann ann", "came ann writeread",
    "left abcdefghijklm", "came abcdefghijklm read", "begins 0123456789abc write",
    "left an-n", "left ann.", "left ann,", "left `", "left {", "left /", "left :",
    "left 'ann'", "('left', 'ann')", "left", "left ", "came ann ", "came  read",
    "leftann", "cameannread", "left ann left bob", "left ann,asked bob",
)

NO_TEXTS = (
    None, True, False, 0, 1, -1, [], ["left ann\n"], ["left", "ann"],
    [("left", "ann")], list("left ann\n"), (), ("left ann\n",), ("left", "ann"),
    {}, {"left ann\n": 1}, {"left ann\n"}, b"", b"left ann\n", object(),
)


def drawn_rows(chance, many):
    rows = []
    for _ in range(many):
        name = "".join(chance.choice("abyz0189") for _ in range(chance.randint(1, 12)))
        word = chance.choice(("came", "left", "asked", "eased", "begins"))
        if word in ("came", "begins"):
            rows.append((word, name, chance.choice(("read", "write"))))
        else:
            rows.append((word, name))
    return rows


class TextsTest(unittest.TestCase):

    def assert_text(self, rows, text):
        """The text and the rows are told and read, one as the other."""
        kept = copy.deepcopy(rows)
        found = told(rows)
        self.assertIs(type(found), str)
        self.assertEqual(found, text)
        self.assertEqual(rows, kept)
        again = read(text)
        self.assertEqual(again, kept)
        self.assertIs(type(again), list)
        for row in again:
            self.assertIs(type(row), tuple)
            for word in row:
                self.assertIs(type(word), str)

    def assert_bad(self, text):
        with self.subTest(text=text):
            kept = copy.copy(text)
            with self.assertRaises(BadText) as caught:
                read(text)
            self.assertIs(type(caught.exception), BadText)
            self.assertTrue(type(text) is object or text == kept)

    def test_defined_in_the_file_with_their_arguments(self):
        for found in (told, read):
            self.assertEqual(found.__module__, "readwriteroom.texts")
        self.assertEqual(told(rows=[("left", "ann")]), "left ann\n")
        self.assertEqual(read(text="left ann\n"), [("left", "ann")])

    def test_the_document(self):
        self.assert_text(
            [("came", "ann", "read"), ("begins", "ann", "read"), ("left", "ann")],
            "came ann read\nbegins ann read\nleft ann\n")

    def test_the_empty_list(self):
        self.assert_text([], "")

    def test_each_kind_of_row(self):
        self.assert_text(EACH_KIND, EACH_KIND_TEXT)
        self.assert_text(EACH_KIND[::-1],
                         "".join(EACH_KIND_TEXT.splitlines(True)[::-1]))
        for row, text in zip(EACH_KIND, EACH_KIND_TEXT.splitlines(True)):
            self.assert_text([row], text)
            self.assert_text([row] * 3, text * 3)

    def test_names_of_all_lengths_and_signs(self):
        for sign in "abcdefghijklmnopqrstuvwxyz0123456789":
            for many in (1, 2, 11, 12):
                name = sign * many
                self.assert_text([("left", name)], "left " + name + "\n")
                self.assert_text([("came", name, "write")],
                                 "came " + name + " write\n")

    def test_names_that_are_words(self):
        for name in ("came", "left", "asked", "eased", "begins", "read", "write"):
            self.assert_text(
                [("begins", name, "read"), ("eased", name)],
                "begins " + name + " read\neased " + name + "\n")

    def test_drawn_lists(self):
        for seed in range(200):
            chance = random.Random(seed)
            rows = drawn_rows(chance, chance.randint(0, 30))
            self.assert_text(rows, "".join(" ".join(row) + "\n" for row in rows))

    def test_a_long_list(self):
        rows = drawn_rows(random.Random(3), 20000)
        self.assert_text(rows, "".join(" ".join(row) + "\n" for row in rows))

    def test_the_journal_of_a_room(self):
        for seed in range(10):
            plain = drawn_room(random.Random(seed), 3, 1, names_up_to(10), 100)
            again = read(told(plain.rows))
            self.assertEqual(again, plain.rows)
            self.assertIsNone(judged(3, 1, again))
        room = room_with(2, 1, "come ann read", "come bob write", "ask ann")
        self.assertEqual(
            told(room.journal()), "came ann read\nbegins ann read\n"
            "came bob write\nasked ann\nbegins ann write\n")

    def test_whether_rows_can_stand_behind_one_another_is_not_looked_at(self):
        self.assert_text(
            [("begins", "ann", "read"), ("left", "bob"), ("left", "bob"),
             ("eased", "ann"), ("asked", "ann"), ("came", "ann", "read"),
             ("came", "ann", "write"), ("begins", "ann", "write")],
            "begins ann read\nleft bob\nleft bob\neased ann\nasked ann\n"
            "came ann read\ncame ann write\nbegins ann write\n")

    def test_wrong_rows_at_each_place(self):
        for wrong in NO_ROWS:
            self.assert_bad(wrong + "\n")
            self.assert_bad("left bob\n" + wrong + "\n")
            self.assert_bad(wrong + "\n" + "left bob\n")
            self.assert_bad("came bob read\n" + wrong + "\n" + "left bob\n")

    def test_names_and_wishes_that_are_none(self):
        for name in [name for name in NO_NAMES if isinstance(name, str)]:
            for row in (("came", name, "read"), ("begins", name, "write"),
                        ("left", name), ("asked", name), ("eased", name)):
                self.assert_bad(" ".join(row) + "\n")
                self.assert_bad("left bob\n" + " ".join(row) + "\nleft cy\n")
        for wish in [wish for wish in NO_WISHES if isinstance(wish, str)]:
            for word in ("came", "begins"):
                self.assert_bad(word + " ann " + wish + "\n")
                self.assert_bad("left bob\n" + word + " ann " + wish + "\nleft cy\n")

    def test_a_last_row_that_is_not_ended(self):
        for row in EACH_KIND_TEXT.splitlines():
            self.assert_bad(row)
            self.assert_bad("left bob\n" + row)
            self.assert_bad(EACH_KIND_TEXT + row)
        for many in range(1, len(EACH_KIND_TEXT)):
            if EACH_KIND_TEXT[many - 1] != "\n":
                self.assert_bad(EACH_KIND_TEXT[:many])

    def test_empty_rows(self):
        for text in ("\n", "\n\n", "\n\n\n", "\nleft ann\n", "left ann\n\n",
                     "left ann\n\nleft bob\n", " \n", "\n ", " ", "left ann\n "):
            self.assert_bad(text)

    def test_other_line_ends(self):
        for text in ("left ann\r\n", "left ann\r", "left ann\r\nleft bob\r\n",
                     "left ann\n\r", "\r\n", "\r", "left ann\rleft bob\n",
                     "left ann\tleft bob\n", "left ann\n\t", "\tleft ann\n"):
            self.assert_bad(text)

    def test_what_is_no_text(self):
        for thing in NO_TEXTS:
            self.assert_bad(thing)

    def test_texts_with_drawn_changes(self):
        right = 0
        for seed in range(4000):
            chance = random.Random(seed)
            text = told(drawn_rows(chance, chance.randint(0, 4)))
            for _ in range(chance.randint(1, 2)):
                at = chance.randint(0, len(text))
                put = chance.choice(("", "", "a", "0", "A", " ", "\n", "\t", "-",
                                     "read", "left", "left a\n", " read"))
                text = text[:at] + put + text[at + chance.randint(0, 1):]
            if re.fullmatch("(" + ROW + ")*", text):
                right += 1
                self.assertEqual(told(read(text)), text)
                self.assertEqual(
                    read(text), [tuple(row.split(" ")) for row in text.split("\n")[:-1]])
            else:
                self.assert_bad(text)
        self.assertGreater(right, 300)
        self.assertLess(right, 3000)

    def test_what_was_read_is_the_callers_own(self):
        text = "came ann read\nbegins ann read\n"
        one, other = read(text), read(text)
        self.assertIsNot(one, other)
        one.clear()
        self.assertEqual(other, [("came", "ann", "read"), ("begins", "ann", "read")])
        self.assertEqual(read(text), other)
        one, other = read(""), read("")
        one.append("mine")
        self.assertEqual((other, read("")), ([], []))

    def test_what_is_done_to_the_rows_later_changes_no_text(self):
        rows = [("left", "ann"), ("asked", "bob")]
        text = told(rows)
        rows.append(("eased", "cy"))
        self.assertEqual(text, "left ann\nasked bob\n")
        self.assertEqual(told(rows), "left ann\nasked bob\neased cy\n")


if __name__ == "__main__":
    unittest.main()
