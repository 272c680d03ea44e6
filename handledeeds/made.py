"""Programs made of others: stores, choices, ends, logs."""

from handledeeds.fresh import fresh_name
from handledeeds.terms import names_free


def name(word):
    """The TERM of a name."""
    return ("name", word)


def called(function, handed):
    """The TERM that calls one TERM of another."""
    return ("call", function, handed)


def answered(body, then, clauses):
    """The body with a deep answerer around it, in whose U x stands."""
    return ("handle", "deep", body, ("x", then), clauses)


def stored(body, first):
    """The body with a store around it, in which first is kept at first: get tells, and put changes, what's kept."""
    get = ("fun", "s", called(called(name("k"), name("s")), name("s")))
    put = ("fun", "s", called(called(name("k"), ("num", 0)), name("v")))
    clauses = (("get", "many", "u", "k", get), ("put", "many", "v", "k", put))
    return called(answered(body, ("fun", "s", name("x")), clauses), first)


def summed(body, many):
    """The sum of what the body tells by each choice from 0 to many less 1."""
    total = called(name("k"), ("num", 0))
    for choice in range(1, many):
        total = ("op", "plus", total, called(name("k"), ("num", choice)))
    return answered(body, name("x"), (("choose", "many", "u", "k", total),))


def tried(body, other):
    """The body, or, where it's stopped, the other one."""
    used = names_free(other)
    x = fresh_name("u", used) if "u" in used else "u"
    return answered(body, name("x"), (("stop", "end", x, "", other),))


def logged(body):
    """The pair of what the body tells and 0; what's said in it is said on."""
    return answered(body, ("two", name("x"), ("num", 0)), (("say", "quick", "x", "", ("ask", "say", name("x"))),))
