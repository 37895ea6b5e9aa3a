"""Tests of point 2: `is_name` and `is_wish` of readwriteroom/rules.py."""

import unittest
from unittest import mock

from readwriteroom import rules
from readwriteroom.rules import is_name, is_wish

GOOD_SIGNS = "abcdefghijklmnopqrstuvwxyz0123456789"
LINE_ENDS = ("\n", "\r", "\r\n")
PRINTABLE = tuple(chr(code) for code in range(ord(" "), ord("~") + 1))
BAD_SIGNS = tuple(
    sign for sign in PRINTABLE + ("\t",) + LINE_ENDS if sign not in GOOD_SIGNS)

NO_TEXTS = (
    0, 1, -1, 7, 10 ** 12, 1.5, True, False, None,
    [], ["a"], ["ann"], ["read"], ["write"], list("read"),
    (), ("a",), ("ann",), ("read",), ("write",), tuple("write"),
    {}, {"ann": 1}, {"read": "read"}, {"a", "b"}, frozenset(("read",)),
    b"", b"a", b"ann", b"read", b"write", bytearray(b"read"),
    object(), str, len, range(3),
    # Equal to every text, and none itself.
    mock.ANY,
)


class NameTest(unittest.TestCase):

    def assert_names(self, things):
        for thing in things:
            with self.subTest(thing=thing):
                self.assertIs(is_name(thing), True)

    def assert_no_names(self, things):
        for thing in things:
            with self.subTest(thing=thing):
                self.assertIs(is_name(thing), False)

    def test_defined_in_the_file(self):
        self.assertEqual(is_name.__module__, "readwriteroom.rules")
        self.assertEqual(is_wish.__module__, "readwriteroom.rules")
        self.assertIs(rules.is_name(thing="ann"), True)
        self.assertIs(rules.is_wish(thing="read"), True)

    def test_each_good_sign_alone(self):
        self.assert_names(GOOD_SIGNS)

    def test_each_good_sign_at_each_place(self):
        for sign in GOOD_SIGNS:
            self.assert_names(
                ("x" * at + sign + "x" * (11 - at)) for at in range(12))

    def test_each_length_from_one_to_twelve(self):
        self.assert_names("a" * length for length in range(1, 13))
        self.assert_names(("ann", "7", "007", "a1b2c3d4e5f6", "123456789012",
                           "abcdefghijkl", "read", "write", "none", "true"))

    def test_the_empty_text_and_too_long_texts(self):
        self.assert_no_names(("", "abcdefghijklm", "1234567890123",
                              "a" * 13, "a" * 24, "a" * 100000))

    def test_great_letters(self):
        self.assert_no_names(("A", "Z", "Ann", "aNn", "anN", "ANN"))

    def test_blanks_tabs_and_line_ends(self):
        for sign in (" ", "\t") + LINE_ENDS:
            self.assert_no_names((sign, sign + "ann", "an" + sign + "n",
                                  "ann" + sign, "a" * 11 + sign,
                                  "a" * 12 + sign, sign + "a" * 11))

    def test_each_other_sign_at_each_place(self):
        for sign in BAD_SIGNS:
            self.assert_no_names((sign,))
            for length in (2, 3, 11):
                self.assert_no_names(
                    "a" * at + sign + "a" * (length - at)
                    for at in range(length + 1))

    def test_the_signs_beside_the_good_ones(self):
        self.assert_no_names(("`", "{", "/", ":", "@", "[", "_", "-", "."))

    def test_what_is_no_text(self):
        self.assert_no_names(NO_TEXTS)

    def test_what_is_handed_in_stays(self):
        things = [["ann"], {"ann": ["read"]}, {"ann"}]
        for thing in things:
            is_name(thing)
            is_wish(thing)
        self.assertEqual(things, [["ann"], {"ann": ["read"]}, {"ann"}])


class WishTest(unittest.TestCase):

    def assert_no_wishes(self, things):
        for thing in things:
            with self.subTest(thing=thing):
                self.assertIs(is_wish(thing), False)

    def test_the_two_wishes(self):
        self.assertIs(is_wish("read"), True)
        self.assertIs(is_wish("write"), True)
        self.assertIs(is_wish("".join(["re", "ad"])), True)
        self.assertIs(is_wish("".join(["wri", "te"])), True)

    def test_texts_that_are_nearly_wishes(self):
        self.assert_no_wishes((
            "", "r", "w", "rea", "ead", "rite", "writ", "reads", "writes",
            "reader", "writer", "readwrite", "read write", "reed", "wright",
            "Read", "READ", "reaD", "Write", "WRITE", "writE",
            " read", "read ", "\tread", "read\t", "read\n", "\nread",
            "read\r\n", " write", "write ", "write\n", "\nwrite", "wr ite",
            "re ad", "'read'", "ask", "ease", "come", "leave", "ann", "none"))

    def test_what_is_no_text(self):
        self.assert_no_wishes(NO_TEXTS)


if __name__ == "__main__":
    unittest.main()
