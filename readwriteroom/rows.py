"""The rows of a journal: their first words, and what is a row."""

from readwriteroom.rules import is_name, is_wish

CAME = "came"
LEFT = "left"
ASKED = "asked"
EASED = "eased"
BEGINS = "begins"


def is_word(thing, words):
    """True where the thing is one of these words."""
    return isinstance(thing, str) and thing in words


def is_row(thing):
    """True where the thing is a tuple as a journal can have it for a row."""
    if not isinstance(thing, tuple):
        return False
    if len(thing) == 3:
        word, name, wish = thing
        return is_word(word, (CAME, BEGINS)) and is_name(name) and is_wish(wish)
    if len(thing) == 2:
        word, name = thing
        return is_word(word, (LEFT, ASKED, EASED)) and is_name(name)
    return False
