"""A long run: a hundred people and a thousand deeds."""

import random
import unittest

from readwriteroom.judging import judged, room_of
from readwriteroom.room import Room
from readwriteroom.texts import read, told

from plain_room import PlainRoom
from rooms import done, drawn_deed, names_up_to, told_of

DEEDS = 1000
PEOPLE = 100


class LongRunTest(unittest.TestCase):

    def run_long(self, seats, patience, crowd):
        chance, names = random.Random(seats + patience), names_up_to(PEOPLE)
        room, plain = Room(seats, patience), PlainRoom(seats, patience)
        for name in names:
            wish = chance.choice(("read", "write"))
            self.assertEqual(room.come(name, wish), plain.do("come", name, wish))
        self.assertEqual(len(plain.those_inside() + plain.those_outside()), PEOPLE)
        deeds = PEOPLE
        while deeds < DEEDS:
            deed, *arguments = drawn_deed(chance, plain, names, crowd)
            if plain.refusal(deed, *arguments) is None:
                self.assertEqual(done(room, deed, *arguments),
                                 plain.do(deed, *arguments))
                deeds += 1
        self.assertEqual(told_of(room), plain.told())
        return room

    def test_long_runs(self):
        for seats, patience, crowd in ((5, 2, 0.5), (20, 0, 0.5), (50, 10, 0.55)):
            with self.subTest(seats=seats, patience=patience):
                room = self.run_long(seats, patience, crowd)
                rows = room.journal()
                self.assertGreater(len(rows), DEEDS)
                self.assertIsNone(judged(seats, patience, rows))
                again = room_of(seats, patience, rows)
                self.assertEqual(told_of(again), told_of(room))
                self.assertEqual(read(told(rows)), rows)
                self.assertEqual(judged(seats, patience, rows + [("left", "zoe")]),
                                 len(rows))
                self.assert_ends(room, again)

    def assert_ends(self, room, again):
        """All who are in the rooms go out, until nobody is left."""
        while room.readers() or room.writer() is not None:
            name = (room.readers() or [room.writer()])[0]
            self.assertEqual(room.leave(name), again.leave(name))
        self.assertEqual(told_of(room), told_of(again))
        self.assertEqual(room.line(), [])

    def test_one_writer_behind_another(self):
        room, names = Room(3, 2), names_up_to(1000)
        for name in names:
            room.come(name, "write")
        for name, following in zip(names, names[1:]):
            self.assertEqual(room.leave(name), [(following, "write")])
        self.assertIsNone(judged(3, 2, room.journal()))

    def test_all_readers_at_once(self):
        room, names = Room(1000, 0), names_up_to(1000)
        room.come("w", "write")
        for name in names:
            room.come(name, "read")
        self.assertEqual(room.leave("w"), [(name, "read") for name in names])
        self.assertEqual(room.readers(), names)
        self.assertIsNone(judged(1000, 0, room.journal()))


if __name__ == "__main__":
    unittest.main()
