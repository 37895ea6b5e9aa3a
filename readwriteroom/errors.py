"""The refusals of a room, one class for each kind."""


class RoomError(ValueError):
    """Any refusal."""


class BadName(RoomError):
    """What should be a name is none."""


class BadWish(RoomError):
    """What should be a wish is none."""


class BadNumber(RoomError):
    """The seats or the patience of a room are none."""


class Known(RoomError):
    """The name is in the room or in the line already."""


class Stranger(RoomError):
    """The name is neither in the room nor in the line."""


class Outside(RoomError):
    """The name is in the line, not in the room."""


class Inside(RoomError):
    """The name is in the room, not in the line."""


class Reads(RoomError):
    """The name reads, where one who writes is asked for."""


class Writes(RoomError):
    """The name writes already."""


class Asked(RoomError):
    """Somebody has asked to write already."""


class BadText(RoomError):
    """The text of a journal is not as it should be."""


class BadJournal(RoomError):
    """The rows are the journal of no such room."""
