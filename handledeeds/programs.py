"""Programs that need one another.

They're a dict by names of triples (TERM, its KIND, the rising tuple of the names of others that it needs
straight). None needs itself, straight or not.
"""

from handledeeds.errors import Clash
from handledeeds.look import kind_of
from handledeeds.terms import names_free


def all_needed(programs, names):
    """The rising list of these names and of all that they need, straight or not."""
    found = {}
    waiting = list(names)
    while waiting:
        name = waiting.pop()
        if name not in found:
            found[name] = True
            waiting.extend(list(programs[name][2]))
    return sorted(found)


def in_order(programs, names):
    """The list of these names, each behind those of them that it needs, of several the first by name first."""
    placed = []
    waiting = sorted(names)
    while waiting:
        ready = [name for name in waiting if not any([needed in waiting for needed in programs[name][2]])]
        placed.append(ready[0])
        waiting.remove(ready[0])
    return placed


def closed(programs, term):
    """The term in lets of all programs that it needs."""
    told = term
    for name in in_order(programs, all_needed(programs, names_free(term)))[::-1]:
        told = ("let", name, programs[name][0], told)
    return told


def kind_with(programs, term, sheet):
    """The KIND of a term with the programs that it needs; Clash."""
    known = tuple([(name, programs[name][1]) for name in names_free(term)])
    return kind_of(term, sheet, known=known)


def with_program(programs, name, program):
    """The programs with this triple by a name, the KINDs of others being as they were."""
    told = dict(programs)
    told[name] = program
    return told


def looked_again(programs, name, sheet):
    """All programs, those that need the one of this name looked at again, and the rising list of the broken ones.

    These can be looked at no more.
    """
    told = dict(programs)
    others = [other for other in programs if other != name and name in all_needed(programs, [other])]
    broken = []
    for other in in_order(programs, others):
        term, _, needed = programs[other]
        if any([each in broken for each in needed]):
            broken.append(other)
            continue
        try:
            told[other] = (term, kind_with(told, term, sheet), needed)
        except Clash:
            broken.append(other)
    return (told, sorted(broken))
