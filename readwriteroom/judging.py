"""Whether rows are the journal of a room, and the room of a journal."""

from readwriteroom.errors import BadJournal, RoomError
from readwriteroom.room import Room
from readwriteroom.rows import ASKED, BEGINS, CAME, EASED, LEFT, is_row


def begun(room, row):
    """The pairs of who began behind the deed of a row, or None if it is refused.

    None, too, where the row tells of no deed.
    """
    word = row[0]
    name = row[1]
    try:
        if word == CAME:
            return room.come(name, row[2])
        if word == LEFT:
            return room.leave(name)
        if word == ASKED:
            return room.ask(name)
        if word == EASED:
            return room.ease(name)
    except RoomError:
        return None
    return None


def first_wrong(room, rows):
    """The place that `judged` tells; the room, a new one, does the deeds."""
    due = []
    met = 0
    for place, row in enumerate(rows):
        if not is_row(row):
            return place
        if met < len(due):
            name, wish = due[met]
            if row != (BEGINS, name, wish):
                return place
            met += 1
        else:
            due = begun(room, row)
            met = 0
            if due is None:
                return place
    if met < len(due):
        return len(rows)
    return None


def judged(seats, patience, rows):
    """None where the rows are right; else the place of the first wrong one.

    The count of all rows where somebody has yet to begin behind the last one.
    """
    return first_wrong(Room(seats, patience), rows)


def room_of(seats, patience, rows):
    """The room of which the rows are the journal."""
    room = Room(seats, patience)
    if first_wrong(room, rows) is not None:
        raise BadJournal("the rows are the journal of no such room")
    return room
