"""The text of a journal, and the journal of a text."""

from readwriteroom.errors import BadText
from readwriteroom.rows import is_row

LINE_END = "\n"


def told(rows):
    """The text of a list of rows."""
    return "".join([" ".join(row) + LINE_END for row in rows])


def row_of(line):
    """The row that a row of text tells, without its line end."""
    row = tuple(line.split(" "))
    if not is_row(row):
        raise BadText("a row of the text tells no row of a journal")
    return row


def read(text):
    """The list of rows that a text tells."""
    if not isinstance(text, str):
        raise BadText("this is no text")
    lines = text.split(LINE_END)
    # Behind the last line end, and in the empty text, nothing stands.
    if lines.pop() != "":
        raise BadText("the last row isn't ended")
    return [row_of(line) for line in lines]
