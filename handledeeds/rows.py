"""The rows of a program: flat, each thing that is done behind what it needs."""

from handledeeds.errors import NoName
from handledeeds.free import need_nothing
from handledeeds.rowwriter import written


def rows_of(term):
    """The list of the rows of a program; NoName, NoAnswerer of what stands for nothing in it."""
    try:
        return written(term)
    except NoName:
        # The one come to first, of which another one may be refused first.
        need_nothing(term)
        raise
