"""The room: who reads, who writes and who waits, and the deeds."""

from readwriteroom.errors import Asked, BadName, BadNumber, BadWish, Inside, Known
from readwriteroom.errors import Outside, Reads, Stranger, Writes
from readwriteroom.rows import ASKED, BEGINS, CAME, EASED, LEFT
from readwriteroom.rules import READ, WRITE, is_name, is_wish, next_place

LEAST_SEATS = 1
LEAST_PATIENCE = 0
MOST = 10 ** 9


def is_number(thing, least):
    """True where the thing is a number from the least one to the most."""
    # True and False are of the kind int, too.
    if not isinstance(thing, int) or isinstance(thing, bool):
        return False
    return least <= thing <= MOST


class Room:
    """A room of many readers or one writer, and the line of those who wait."""

    def __init__(self, seats, patience):
        if not is_number(seats, LEAST_SEATS):
            raise BadNumber("seats must be a number from 1 to 10 ** 9")
        if not is_number(patience, LEAST_PATIENCE):
            raise BadNumber("patience must be a number from 0 to 10 ** 9")
        self.seats = seats
        self.patience = patience
        # A dict, since it keeps the order in which its keys were added.
        self._readers = {}
        self._writer = None
        self._asker = None
        # Triples of a name, a wish and how often that one was passed, as
        # next_place takes them.
        self._line = []
        self._rows = []

    def come(self, name, wish):
        """One goes to the end of the line; the pairs of who began behind it."""
        if not is_name(name):
            raise BadName("this is no name")
        if not is_wish(wish):
            raise BadWish("this is no wish")
        if self._is_known(name):
            raise Known("this name is in the room or in the line already")
        self._line.append((name, wish, 0))
        return self._settle((CAME, name, wish))

    def leave(self, name):
        """One goes out of the room or the line; the pairs of who began behind it."""
        self._need_known(name)
        if self._is_inside(name):
            self._go_out(name)
        else:
            del self._line[self._place(name)]
        return self._settle((LEFT, name))

    def ask(self, name):
        """One who reads asks to write; the pairs of who began behind it."""
        self._need_inside(name)
        if name == self._writer:
            raise Writes("this one writes already")
        if self._asker is not None:
            raise Asked("somebody has asked to write already")
        self._asker = name
        return self._settle((ASKED, name))

    def ease(self, name):
        """One who writes reads from then on; the pairs of who began behind it."""
        self._need_inside(name)
        if name != self._writer:
            raise Reads("this one reads")
        self._writer = None
        self._readers[name] = True
        return self._settle((EASED, name))

    def readers(self):
        """The names of those who read, in the order in which they began to."""
        return list(self._readers)

    def writer(self):
        """The name of who writes, or None."""
        return self._writer

    def asker(self):
        """The name of who has asked to write, or None."""
        return self._asker

    def line(self):
        """The pairs of a name and a wish in the line, the first one first."""
        return [(name, wish) for name, wish, _ in self._line]

    def passed(self, name):
        """How often one in the line was passed."""
        self._need_known(name)
        if self._is_inside(name):
            raise Inside("this name is in the room")
        return self._line[self._place(name)][2]

    def journal(self):
        """The rows of the deeds that were done and of who began behind them."""
        return list(self._rows)

    def _place(self, name):
        """The place of a name in the line, or None."""
        for place, waiting in enumerate(self._line):
            if waiting[0] == name:
                return place
        return None

    def _is_inside(self, name):
        return name in self._readers or name == self._writer

    def _is_known(self, name):
        # What is no name may be of a kind that can't be looked up in a dict.
        if not is_name(name):
            return False
        return self._is_inside(name) or self._place(name) is not None

    def _need_known(self, name):
        if not self._is_known(name):
            raise Stranger("this name is neither in the room nor in the line")

    def _need_inside(self, name):
        self._need_known(name)
        if not self._is_inside(name):
            raise Outside("this name is in the line")

    def _go_out(self, name):
        """Take one who is in the room out of it."""
        if name == self._asker:
            self._asker = None
        if name == self._writer:
            self._writer = None
        else:
            del self._readers[name]

    def _settle(self, row):
        """Note a deed, let begin who can, and give the pairs of these."""
        self._rows.append(row)
        began = []
        pair = self._begin_next()
        while pair is not None:
            name, wish = pair
            self._rows.append((BEGINS, name, wish))
            began.append(pair)
            pair = self._begin_next()
        return began

    def _begin_next(self):
        """Let the next one begin: the pair of that one, or None."""
        if self._asker is not None:
            return self._begin_asked()
        writes = self._writer is not None
        place = next_place(self._line, self.seats, self.patience, len(self._readers), writes)
        if place is None:
            return None
        self._count_passed(place)
        name, wish, _ = self._line.pop(place)
        if wish == READ:
            self._readers[name] = True
        else:
            self._writer = name
        return (name, wish)

    def _begin_asked(self):
        """Let the one who has asked write, if alone: the pair, or None."""
        # Who has asked reads, so that nobody writes.
        if len(self._readers) > 1:
            return None
        name = self._asker
        self._go_out(name)
        self._writer = name
        return (name, WRITE)

    def _count_passed(self, place):
        """Count that each one ahead of this place in the line is passed."""
        for ahead in range(place):
            name, wish, passed = self._line[ahead]
            self._line[ahead] = (name, wish, passed + 1)
