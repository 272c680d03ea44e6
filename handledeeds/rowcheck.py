"""Whether a thing is the rows of a program, and of which."""

from handledeeds.errors import NoAnswerer
from handledeeds.errors import NoName
from handledeeds.rowforms import is_row
from handledeeds.rowreader import RowReader
from handledeeds.rows import rows_of
from handledeeds.rowtakers import takes
from handledeeds.same import is_same


def term_of(thing):
    """The TERM of which a thing is the rows, each name called by how many stand around it; None of none."""
    if type(thing) is not list:
        return None
    reader = RowReader()
    for at, row in enumerate(thing):
        if not is_row(row) or not takes(reader, at, row):
            return None
    # What's still opened isn't whole: there the rows end too early.
    return None if reader.opened else reader.whole[0]


def are_rows(thing):
    """Whether a thing is the rows of a TERM, as term_of tells it."""
    return term_of(thing) is not None


def are_rows_of(term, thing):
    """Whether a thing is just the rows of a term."""
    try:
        return is_same(thing, rows_of(term))
    except (NoName, NoAnswerer):
        # A program in which something stands for nothing has no rows.
        return False
