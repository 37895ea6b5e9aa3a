"""What is a name and a wish, who can begin, and who begins next."""

READ = "read"
WRITE = "write"
NAME_SIGNS = "abcdefghijklmnopqrstuvwxyz0123456789"
NAME_LENGTH = 12


def is_name(thing):
    """True where the thing is a text of 1 to 12 small letters and figures."""
    if not isinstance(thing, str):
        return False
    if not 1 <= len(thing) <= NAME_LENGTH:
        return False
    return all(sign in NAME_SIGNS for sign in thing)


def is_wish(thing):
    """True where the thing is the text `read` or the text `write`."""
    return isinstance(thing, str) and thing in (READ, WRITE)


def can_begin(seats, reading, writes, wish):
    """True where one with this wish can begin beside those in the room."""
    if writes:
        return False
    if wish == READ:
        return reading < seats
    return reading == 0


def first_reader(line, patience):
    """The place of the first who wishes to read, or None.

    None, too, where somebody ahead of that one must not be passed again.
    """
    for place, (_, wish, passed) in enumerate(line):
        if wish == READ:
            return place
        if passed >= patience:
            return None
    return None


def next_place(line, seats, patience, reading, writes):
    """The place in the line of who begins next, where nobody has asked, or None."""
    if not line:
        return None
    wish = line[0][1]
    if can_begin(seats, reading, writes, wish):
        return 0
    if wish == WRITE and reading > 0 and can_begin(seats, reading, writes, READ):
        return first_reader(line, patience)
    return None
