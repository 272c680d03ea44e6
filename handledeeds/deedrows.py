"""Whether things are deeds of a house, as they stand in rows of deeds."""

from handledeeds.limits import ROW_DEEDS
from handledeeds.limits import ROW_DEPTH

# How many things a deed is written with, its word counted.
DEED_SIZES = {"define": 3, "drop": 2, "start": 2, "go": 2, "answer": 3, "stop": 2, "undo": 1, "do": 3}


def first_bad_deed(deeds):
    """The number of the first thing in an outermost row that's no deed, or one too many; None of none."""
    for number, deed in enumerate(deeds):
        if number >= ROW_DEEDS or not is_deed(deed, ROW_DEPTH - 1):
            return number
    return None


def is_deed(thing, within):
    """Whether a thing is a deed by its word and by how many things it has; so many rows may be within it."""
    if type(thing) is not tuple or len(thing) == 0 or type(thing[0]) is not str or thing[0] not in DEED_SIZES:
        return False
    if len(thing) != DEED_SIZES[thing[0]]:
        return False
    return thing[0] != "do" or within > 0 and type(thing[2]) is bool and are_deeds(thing[1], within - 1)


def are_deeds(thing, within):
    """Whether a thing is a row of deeds; so many rows may be within these."""
    if type(thing) is not list or len(thing) > ROW_DEEDS:
        return False
    return all([is_deed(deed, within) for deed in thing])
