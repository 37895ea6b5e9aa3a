"""Tests of points 4 to 14: drawn deeds, held against the plain room."""

import random
import unittest

from readwriteroom.room import Room

from plain_room import PlainRoom
from rooms import (MANY, SIZES, assert_right, done, drawn_deed, drawn_room,
                   names_up_to, told_of)


def nobody_can_begin(told):
    """By point 6, of all that a room tells."""
    if told["asker"] is not None:
        return len(told["readers"]) > 1
    if not told["line"]:
        return True
    if told["writer"] is not None:
        return True
    if not told["readers"]:
        return False
    if len(told["readers"]) == told["seats"]:
        return True
    for (_, wish), passed in zip(told["line"], told["passed"]):
        if wish == "read":
            return False
        if passed >= told["patience"]:
            return True
    return True


class DrawnTest(unittest.TestCase):

    def assert_sound(self, told):
        """What points 4, 6 and 8 promise behind each deed."""
        readers, writer, line = told["readers"], told["writer"], told["line"]
        self.assertFalse(readers and writer is not None)
        self.assertLessEqual(len(readers), told["seats"])
        names = readers + [name for name, _ in line]
        names += [] if writer is None else [writer]
        self.assertEqual(len(names), len(set(names)))
        if told["asker"] is not None:
            self.assertIn(told["asker"], readers)
        if line:
            self.assertTrue(readers or writer is not None)
        for (_, wish), passed in zip(line, told["passed"]):
            self.assertLessEqual(passed, told["patience"] if wish == "write" else 0)
        self.assertTrue(nobody_can_begin(told), told)

    def assert_in_turn(self, journal, patience):
        """Point 8, of a whole journal: who passes whom, and how often."""
        line, passed = [], {}
        for word, name, *wish in journal:
            ahead = line[:line.index((name, *wish))] if (name, *wish) in line else []
            if word == "came":
                line.append((name, *wish))
                passed[name] = 0
            if word == "left":
                line = [one for one in line if one[0] != name]
            if word == "begins" and (name, *wish) in line:
                if wish == ["write"]:
                    self.assertEqual(ahead, [])
                for other, kind in ahead:
                    self.assertEqual(kind, "write")
                    passed[other] += 1
                    self.assertLessEqual(passed[other], patience)
                line.remove((name, *wish))

    def run_drawn(self, chance, seats, patience, names, deeds, crowd):
        room, plain = Room(seats, patience), PlainRoom(seats, patience)
        for _ in range(deeds):
            deed, *told = drawn_deed(chance, plain, names, crowd)
            refusal = plain.refusal(deed, *told)
            found = done(room, deed, *told)
            if refusal is None:
                self.assertEqual(found, plain.do(deed, *told), (deed, told))
                self.assertIs(type(found), list)
            else:
                self.assertIs(found, refusal, (deed, told))
            told_now = told_of(room)
            self.assertEqual(told_now, plain.told(), (deed, told))
            self.assert_sound(told_now)
        self.assert_in_turn(room.journal(), patience)
        return room

    def test_drawn_deeds_in_rooms_of_each_size(self):
        for seats, patience in SIZES:
            for many, crowd in ((4, 0.5), (9, 0.6), (25, 0.7)):
                with self.subTest(seats=seats, patience=patience, many=many):
                    chance = random.Random(1000 * many + seats + patience)
                    room = self.run_drawn(chance, seats, patience,
                                          names_up_to(many), 150, crowd)
                    assert_right(self, room)

    def test_many_short_runs(self):
        for seed in range(400):
            chance = random.Random(seed)
            seats, patience = chance.randint(1, 4), chance.randint(0, 3)
            with self.subTest(seed=seed):
                self.run_drawn(chance, seats, patience,
                               names_up_to(chance.randint(2, 8)), 30, 0.65)

    def test_all_kinds_of_things_happen_in_drawn_runs(self):
        # Otherwise the runs above would say less than they seem to.
        chance = random.Random(5)
        words, most, asked = {}, 0, 0
        for seats, patience in ((2, 1), (5, 2), (50, 3)):
            plain = drawn_room(chance, seats, patience, names_up_to(12), 300, 0.65)
            journal = plain.rows
            for word, *_ in journal:
                words[word] = words.get(word, 0) + 1
            for row, behind in zip(journal, journal[1:]):
                asked += row[0] != "came" and behind == ("begins", row[1], "write")
            most = max([most] + [passed for _, _, passed in plain.waiting])
        for word in ("came", "left", "asked", "eased", "begins"):
            self.assertGreater(words[word], 20, words)
        self.assertGreater(asked, 3)
        self.assertGreater(most, 0)

    def test_a_room_that_falls_empty_lets_in_all(self):
        for seed in range(150):
            chance = random.Random(seed)
            seats, patience = chance.randint(1, 5), chance.randint(0, 3)
            plain = drawn_room(chance, seats, patience, names_up_to(15), 60, 0.8)
            room = Room(seats, patience)
            for row in plain.rows:
                if row[0] != "begins":
                    self.assertIsInstance(done(
                        room, {"came": "come", "left": "leave", "asked": "ask",
                               "eased": "ease"}[row[0]], *row[1:]), list)
            self.assert_falls_empty(chance, room)

    def assert_falls_empty(self, chance, room):
        line, asker, began = room.line(), room.asker(), []
        while room.readers() or room.writer() is not None:
            inside = room.readers() or [room.writer()]
            began += room.leave(chance.choice(inside))
        self.assertEqual(room.line(), [])
        began = [pair for pair in began if pair != (asker, "write")]
        for wish in ("read", "write"):
            self.assertEqual([pair for pair in began if pair[1] == wish],
                             [pair for pair in line if pair[1] == wish])

    def test_two_rooms_side_by_side(self):
        chance = random.Random(77)
        names = names_up_to(10)
        sizes = ((2, 1), (2, 1), (3, 0), (MANY, 2))
        rooms = [Room(*size) for size in sizes]
        plains = [PlainRoom(*size) for size in sizes]
        for _ in range(400):
            at = chance.randrange(len(rooms))
            deed, *told = drawn_deed(chance, plains[at], names, 0.6)
            if plains[at].refusal(deed, *told) is None:
                self.assertEqual(done(rooms[at], deed, *told),
                                 plains[at].do(deed, *told))
            for room, plain in zip(rooms, plains):
                self.assertEqual(told_of(room), plain.told())


if __name__ == "__main__":
    unittest.main()
