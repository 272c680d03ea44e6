"""Whether a thing is built as a TERM is."""

from handledeeds.limits import OPS
from handledeeds.limits import TERM_CLAUSES
from handledeeds.limits import TOP_NUMBER
from handledeeds.limits import WAYS
from handledeeds.shapes import SHAPES
from handledeeds.words import is_name


def is_form(thing):
    """Whether a thing is a TERM, but for the TERMs within it, which may be anything."""
    if type(thing) is not tuple or len(thing) == 0:
        return False
    word = thing[0]
    if type(word) is not str or word not in SHAPES or len(thing) != len(SHAPES[word]) + 1:
        return False
    for kind, field in zip(SHAPES[word], thing[1:]):
        if not fits(kind, field, thing):
            return False
    return word != "rec" or thing[1] != thing[2]


def fits(kind, field, thing):
    """Whether a field may stand in a thing where this kind of field does; fields ahead fit."""
    if kind == "term":
        return True
    if kind == "number":
        return type(field) is int and 0 <= field <= TOP_NUMBER
    if kind == "op":
        return type(field) is str and field in OPS
    if kind == "way":
        return type(field) is str and field in WAYS
    if kind == "then":
        return type(field) is tuple and len(field) == 2 and is_name(field[0])
    if kind == "clauses":
        return are_clauses(field, thing[1] == "shallow")
    return is_name(field)


def are_clauses(thing, shallow):
    """Whether a thing is the clauses of an answerer, but for the TERMs within them."""
    if type(thing) is not tuple or len(thing) > TERM_CLAUSES:
        return False
    last = ""
    for clause in thing:
        if not is_clause(clause, shallow) or clause[0] <= last:
            return False
        last = clause[0]
    return True


def is_clause(thing, shallow):
    """Whether a thing is one clause, but for the TERM within it."""
    if type(thing) is not tuple or len(thing) != 5:
        return False
    deed, how, x, k, _ = thing
    if not is_name(deed) or not is_name(x) or type(how) is not str or type(k) is not str:
        return False
    if how == "many":
        return is_name(k) and k != x
    return k == "" and (how == "end" or how == "quick" and not shallow)
