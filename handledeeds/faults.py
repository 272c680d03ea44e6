"""What keeps a term from being looked at at all: names, deeds and answerers that aren't there."""

from handledeeds.shapes import bindings
from handledeeds.shapes import called_key
from handledeeds.shapes import clause_deeds
from handledeeds.shapes import inner
from handledeeds.shapes import with_keys

# All others need nothing.
NEEDY = {
    "name": True,
    "ask": True,
    "askof": True,
    "past": True,
    "pastof": True,
    "handle": True,
    "under": True,
}


def first_fault(term, sheet, known):
    """The first pair (PLACE, why), in the order of places_of, of what isn't there; None of none."""
    deeds = [row[0] for row in sheet]
    # What stands around: of names nothing is to be told, of answerers the deeds of their clauses.
    around = {name: () for name, _ in known}
    waiting = [((), term, around)]
    while waiting:
        place, part, around = waiting.pop()
        why = fault(part, deeds, around) if part[0] in NEEDY else ""
        if why != "":
            return (place, why)
        answered = clause_deeds(part)
        within = []
        for at, (below, keys) in enumerate(zip(inner(part), bindings(part))):
            within.append(((*place, at), below, with_keys(around, keys, [answered] * len(keys))))
        waiting.extend(within[::-1])
    return None


def fault(part, deeds, around):
    """What isn't there of all that a needy part itself, none of those within it, needs; "" of nothing.

    Deeds, and what stands around for an answerer, may be anything that has deeds in it.
    """
    word = part[0]
    if word == "name":
        return "" if part[1] in around else "name"
    if word == "askof" or word == "pastof":
        key = called_key(part[1])
        if key not in around:
            return "answerer"
        return "deed" if word == "askof" and part[2] not in around[key] else ""
    if word == "ask" or word == "past":
        return "" if part[1] in deeds else "deed"
    return "" if all([deed in deeds for deed in clause_deeds(part)]) else "deed"
