"""What several tests need: what a room tells, drawn deeds, things of all kinds."""

import copy

from readwriteroom.judging import judged, room_of
from readwriteroom.room import Room

from plain_room import PlainRoom

MANY = 10 ** 9

# No names, and so strangers wherever a name is looked for.
NO_NAMES = (
    "", "a" * 13, "a" * 100, "Ann", "anN", "ANN", "an n", " ann", "ann ",
    "ann\n", "\nann", "ann\r\n", "ann\t", "\t", " ", "\n", "an-n", "a_b", "a.b",
    "ann,", "`", "{", "/", ":", "~",
    0, 1, -1, 12, True, False, None,
    [], ["ann"], ["a", "n", "n"], (), ("ann",), ("a", "n", "n"),
    {}, {"ann": "read"}, {"ann"}, b"", b"ann", [[]], ([],), ({},),
)

NO_WISHES = (
    "", "reads", "writes", "rea", "rite", "Read", "READ", "reaD", "Write",
    "WRITE", "re ad", " read", "read ", "write ", " write", "read\n", "write\n",
    "\nread", "read\t", "read\r\n", "\n", " ", "r", "w", "readwrite",
    "read write", "ask", "ease", "ann", "a" * 100,
    0, 1, -1, True, False, None,
    [], ["read"], ["r", "e", "a", "d"], (), ("read",), ("write",),
    {}, {"read": "write"}, {"read"}, b"", b"read", b"write", [[]], ([],), ({},),
)

# Seats and patience: small and large rooms, patience nought, one and more.
SIZES = (
    (1, 0), (1, 1), (1, 4), (2, 0), (2, 1), (2, 2), (2, MANY), (3, 0), (3, 1),
    (3, 3), (5, 0), (5, 1), (5, 2), (50, 0), (50, 1), (50, 3),
    (MANY, 0), (MANY, 1), (MANY, 5), (MANY, MANY),
)


def told_of(room):
    """All that a room tells, taken apart from the room's own lists."""
    line = room.line()
    return copy.deepcopy({
        "seats": room.seats, "patience": room.patience,
        "readers": room.readers(), "writer": room.writer(),
        "asker": room.asker(), "line": line,
        "passed": [room.passed(name) for name, _ in line],
        "journal": room.journal(),
    })


def done(room, deed, *told):
    """Do a deed: what it gives, or the class of its refusal."""
    try:
        return getattr(room, deed)(*told)
    except Exception as error:  # its very class is what the tests look at
        return type(error)


def room_with(seats, patience, *deeds):
    """A room behind deeds, each a text such as `come ann read`."""
    room = Room(seats, patience)
    for deed in deeds:
        word, *told = deed.split()
        getattr(room, word)(*told)
    return room


def drawn_deed(chance, plain, names, crowd=0.55, sure=0.9):
    """A deed with its arguments, mostly one that isn't refused."""
    inside, line = plain.those_inside(), plain.those_outside()
    absent = [name for name in names if name not in inside + line]
    free = chance.random() > sure
    roll = chance.random()
    if roll < 0.15:
        fit = plain.those_who("read")
        return "ask", chance.choice(names if free or not fit else fit)
    if roll < 0.3:
        fit = plain.those_who("write")
        return "ease", chance.choice(names if free or not fit else fit)
    if chance.random() < crowd:
        name = chance.choice(names if free or not absent else absent)
        return "come", name, chance.choice(("read", "write"))
    fit = chance.choice((inside, inside, line))
    return "leave", chance.choice(names if free or not fit else fit)


def drawn_room(chance, seats, patience, names, deeds, crowd=0.55):
    """A plain room behind as many drawn deeds, none of them refused."""
    plain = PlainRoom(seats, patience)
    while deeds:
        deed, *told = drawn_deed(chance, plain, names, crowd)
        if plain.refusal(deed, *told) is None:
            plain.do(deed, *told)
            deeds -= 1
    return plain


def names_up_to(many):
    return ["p" + str(at) for at in range(many)]


def assert_right(case, room):
    """The room's journal is right, and is that of a room that tells the same."""
    rows = room.journal()
    case.assertIsNone(judged(room.seats, room.patience, rows))
    again = room_of(room.seats, room.patience, rows)
    case.assertEqual(told_of(again), told_of(room))
    return again
