"""TERMs: what they are, their PLACEs, the names in them.

Everything here goes on by lists of what still waits, not by calls within calls: TERMs that were
told may be far deeper than those that are handed in.
"""

from handledeeds.errors import NoPlace
from handledeeds.forms import is_form
from handledeeds.limits import TERM_DEPTH
from handledeeds.limits import TERM_PARTS
from handledeeds.shapes import BINDERS
from handledeeds.shapes import bindings
from handledeeds.shapes import bones
from handledeeds.shapes import inner
from handledeeds.shapes import is_called_key
from handledeeds.shapes import rebuilt
from handledeeds.shapes import uses
from handledeeds.shapes import with_keys


def is_term(thing):
    """Whether a thing is a TERM, within the bounds of parts and depth."""
    waiting = [(thing, 1)]
    parts = 0
    while waiting:
        part, depth = waiting.pop()
        parts += 1
        if parts > TERM_PARTS or depth > TERM_DEPTH or not is_form(part):
            return False
        waiting.extend([(within, depth + 1) for within in inner(part)])
    return True


def places_of(term):
    """The list of all PLACEs of a term, each ahead of those within it."""
    return [place for place, _ in placed(term)]


def placed(term):
    """The list of the pairs (PLACE, TERM there) of a term, in the order of places_of."""
    found = []
    waiting = [((), term)]
    while waiting:
        place, part = waiting.pop()
        found.append((place, part))
        within = inner(part)
        waiting.extend([((*place, at), within[at]) for at in reversed(range(len(within)))])
    return found


def all_parts(term):
    """The list of the term itself and all TERMs within it."""
    found = []
    waiting = [term]
    while waiting:
        part = waiting.pop()
        found.append(part)
        waiting.extend(inner(part))
    return found


def turned(term, change):
    """The term with each part, those within it being turned already, turned into what change tells of it."""
    done = []
    for part in all_parts(term)[::-1]:
        ahead = len(done) - len(inner(part))
        if ahead < len(done):
            part = rebuilt(part, done[ahead:])
            del done[ahead:]
        done.append(change(part))
    return done[0]


def path_to(term, place):
    """The list of the TERMs on the way from a term to its PLACE, both ends too."""
    path = [term]
    for step in place:
        within = inner(path[-1])
        if type(step) is not int or not 0 <= step < len(within):
            raise NoPlace(place)
        path.append(within[step])
    return path


def part_at(term, place):
    """The TERM at a PLACE of a term."""
    return path_to(term, place)[-1]


def put_at(term, place, other):
    """The term with another one at a PLACE, names as they're written."""
    path = path_to(term, place)
    told = other
    for at in reversed(range(len(place))):
        parts = list(inner(path[at]))
        parts[place[at]] = told
        told = rebuilt(path[at], parts)
    return told


def parts_of(term):
    """How many parts a term has: itself and the TERMs within it."""
    return len(all_parts(term))


def deep_of(term):
    """How deep a term is: one more than the deepest TERM within it."""
    deepest = 0
    waiting = [(term, 1)]
    while waiting:
        part, depth = waiting.pop()
        deepest = max(deepest, depth)
        waiting.extend([(within, depth + 1) for within in inner(part)])
    return deepest


def free_keys(term):
    """The list of the keys that stand for nothing in a term, some of them maybe many times."""
    found = []
    waiting = [(term, ())]
    while waiting:
        part, bound = waiting.pop()
        word = part[0]
        if word == "name":
            if part[1] not in bound:
                found.append(part[1])
        elif word in BINDERS:
            waiting.extend([(within, bound + more) for within, more in zip(inner(part), bindings(part))])
        elif word != "num":
            found.extend([key for key in uses(part) if key not in bound])
            waiting.extend([(within, bound) for within in inner(part)])
    return found


def names_free(term):
    """The rising list of names that stand for nothing in a term."""
    return sorted(set([key for key in free_keys(term) if not is_called_key(key)]))


def answerers_free(term):
    """The rising list of names of answerers that stand for nothing in a term."""
    return sorted(set([key[1:] for key in free_keys(term) if is_called_key(key)]))


def deeds_of(term):
    """The rising list of deeds that are asked anywhere in a term, by ask alone."""
    return sorted(set([part[1] for part in all_parts(term) if part[0] == "ask"]))


def is_value(term):
    """Whether a term is num, fun, rec, or two of such."""
    waiting = [term]
    while waiting:
        part = waiting.pop()
        if part[0] == "two":
            waiting.extend(inner(part))
        elif part[0] not in ("num", "fun", "rec"):
            return False
    return True


def are_like(term, other):
    """Whether two terms are the same but for how what stands for something in them is called."""
    waiting = [(term, other, {}, {})]
    binders = 0
    while waiting:
        left, right, left_marks, right_marks = waiting.pop()
        if bones(left) != bones(right) or marks_of(left, left_marks) != marks_of(right, right_marks):
            return False
        lefts = list(zip(inner(left), bindings(left)))
        rights = list(zip(inner(right), bindings(right)))
        for (part, keys), (like, like_keys) in zip(lefts, rights):
            marks = list(range(binders, binders + len(keys)))
            waiting.append((part, like, with_keys(left_marks, keys, marks), with_keys(right_marks, like_keys, marks)))
            binders += len(keys)
    return True


def marks_of(part, marks):
    """What the part itself asks for: marks of what is bound, keys of what stands for nothing."""
    return [marks.get(key, key) for key in uses(part)]
