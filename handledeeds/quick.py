"""Answers made slow, and quick."""

from handledeeds.fresh import fresh_name
from handledeeds.terms import names_free
from handledeeds.terms import placed
from handledeeds.terms import turned


def slowed(term):
    """The term in which each quick clause goes on at once with what it's told, by a name of its own."""
    return turned(term, with_slow_clauses)


def quickened(term):
    """The term in which each clause that does just that, and may be quick, is."""
    return turned(term, with_quick_clauses)


def quick_ones(term):
    """The list of the pairs (PLACE of the answerer, deed) of all quick clauses."""
    found = []
    for place, part in placed(term):
        if is_answerer(part):
            found.extend([(place, clause[0]) for clause in part[4] if clause[1] == "quick"])
    return found


def is_answerer(part):
    """Whether a term is a handle or an under."""
    return part[0] == "handle" or part[0] == "under"


def with_slow_clauses(part):
    """A term, of which the parts are slow, with no quick clause of its own."""
    if not is_answerer(part):
        return part
    return (*part[:4], tuple([slow_clause(clause) for clause in part[4]]))


def slow_clause(clause):
    """A clause that isn't quick, and does what this one does."""
    deed, how, x, _, body = clause
    if how != "quick":
        return clause
    k = fresh_name("k", [*names_free(body), x])
    return (deed, "many", x, k, ("call", ("name", k), body))


def with_quick_clauses(part):
    """A term, of which the parts are quick, with all those of its own quick that may be."""
    if not is_answerer(part) or part[:2] == ("handle", "shallow"):
        return part
    return (*part[:4], tuple([quick_clause(clause) for clause in part[4]]))


def quick_clause(clause):
    """A clause that is quick, where this one can be, and does what this one does."""
    deed, how, x, k, body = clause
    if how != "many" or body[0] != "call" or body[1] != ("name", k) or k in names_free(body[2]):
        return clause
    return (deed, "quick", x, "", body[2])
