"""Whether a row, by itself, is one that rows may have."""

from handledeeds.limits import OPS
from handledeeds.limits import TERM_CLAUSES
from handledeeds.limits import TOP_NUMBER
from handledeeds.limits import WAYS
from handledeeds.words import is_name

# What stands behind the word of a row.
ROW_SHAPES = {
    "num": ("number",),
    "get": ("count",),
    "fun": ("count",),
    "rec": ("count",),
    "back": (),
    "call": (),
    "name": (),
    "unname": (),
    "op": ("op",),
    "ifno": ("count",),
    "to": ("count",),
    "two": (),
    "first": (),
    "second": (),
    "ask": ("deed",),
    "askof": ("count", "deed"),
    "past": ("deed",),
    "pastof": ("count",),
    "unpast": (),
    "ward": ("count",),
    "unward": (),
    "handle": ("way", "count", "clauses", "count", "count"),
    "leave": (),
    "end": (),
}


def is_row(thing):
    """Whether a thing, whatever it is, is such a row; places and what names stand for aside."""
    if type(thing) is not tuple or len(thing) == 0 or type(thing[0]) is not str or thing[0] not in ROW_SHAPES:
        return False
    shape = ROW_SHAPES[thing[0]]
    if len(thing) != len(shape) + 1:
        return False
    for sort, field in zip(shape, thing[1:]):
        if not may_stand(sort, field, thing):
            return False
    return True


def may_stand(sort, field, row):
    """Whether a field may stand where this sort of field does; the fields ahead of it in the row may."""
    if sort == "count":
        return type(field) is int and field >= 0
    if sort == "number":
        return type(field) is int and 0 <= field <= TOP_NUMBER
    if sort == "op":
        return type(field) is str and field in OPS
    if sort == "way":
        return type(field) is str and (field in WAYS or field == "under")
    if sort == "clauses":
        return are_row_clauses(field, row[1] == "shallow")
    return is_name(field)


def are_row_clauses(thing, shallow):
    """Whether a thing is the clauses of an answerer's row, rising by deeds."""
    if type(thing) is not tuple or len(thing) > TERM_CLAUSES:
        return False
    last = ""
    for clause in thing:
        if not is_row_clause(clause, shallow) or clause[0] <= last:
            return False
        last = clause[0]
    return True


def is_row_clause(thing, shallow):
    """Whether a thing is one clause of an answerer's row."""
    if type(thing) is not tuple or len(thing) != 3:
        return False
    deed, how, place = thing
    if not is_name(deed) or type(how) is not str or not may_stand("count", place, ()):
        return False
    return how == "many" or how == "end" or how == "quick" and not shallow
