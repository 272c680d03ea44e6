"""KINDs and ROSTERs: what they are, what is open in them, what may be put in."""

from handledeeds.kindforms import is_kind_within
from handledeeds.kindforms import is_roster_within
from handledeeds.kindheads import alike
from handledeeds.kindheads import built
from handledeeds.kindheads import heads_of
from handledeeds.kindheads import is_open
from handledeeds.kindheads import is_roster_head
from handledeeds.kindheads import opens_in
from handledeeds.labels import beyond
from handledeeds.labels import joined
from handledeeds.limits import KIND_DEPTH
from handledeeds.limits import KIND_LABELS
from handledeeds.limits import KIND_PARTS
from handledeeds.limits import SHEET_DEEDS
from handledeeds.limits import SHEET_DEPTH
from handledeeds.words import is_name


def is_kind(thing):
    """Whether a thing is a KIND, within the bounds of what's handed in."""
    return is_kind_within(thing, KIND_PARTS, KIND_DEPTH, KIND_LABELS)


def is_roster(thing):
    """Whether a thing is a ROSTER, within the bounds of what's handed in."""
    return is_roster_within(thing, KIND_LABELS)


def is_sheet(thing):
    """Whether a thing is a SHEET: deeds that rise, each with what it's handed and answered."""
    if type(thing) is not tuple or len(thing) > SHEET_DEEDS:
        return False
    last = ""
    for row in thing:
        if type(row) is not tuple or len(row) != 3 or not is_name(row[0]) or row[0] <= last:
            return False
        if not is_sheet_kind(row[1]) or not is_sheet_kind(row[2]):
            return False
        last = row[0]
    return True


def is_sheet_kind(thing):
    """Whether a thing is a KIND that may stand in a SHEET: of numbers and pairs alone."""
    if not is_kind_within(thing, KIND_PARTS, SHEET_DEPTH, KIND_LABELS):
        return False
    return all([head == "number" or head == "pair" for head in heads_of(thing)])


def opens_of(kind):
    """The pair of lists (numbers of open kinds, of open tails) of a kind, as they first stand."""
    return opens_in(heads_of(kind))


def put_in(kind, kinds, tails):
    """The kind with all these put in at once for what's open; what's in neither dict stays."""
    return built(renamed(heads_of(kind), kinds, tails))


def renamed(heads, kinds, tails):
    """Likewise of a row of heads, those of a kind that's put in being told one by one."""
    told = []
    for head in heads:
        if is_open(head):
            told.extend(heads_of(kinds.get(head[1], head)))
        elif is_roster_head(head):
            told.append(put_in_roster(head, kinds, tails))
        else:
            told.append(head)
    return told


def put_in_roster(roster, kinds, tails):
    """The roster with what these dicts have for its tail put in, labels beside the others."""
    labels, tail = roster
    if tail not in tails:
        return roster
    more, rest = tails[tail]
    return (joined(labels, more), rest)


def settled(kind, roster):
    """The pair of both, open ones numbered anew as they first stand, the kind ahead of the roster."""
    kinds, tails = renumbered(heads_of(kind) + [roster])
    return (put_in(kind, kinds, tails), put_in_roster(roster, kinds, tails))


def renumbered(heads):
    """The pair of dicts that number what's open in a row of heads anew from 0, as it first stands."""
    kinds, tails = opens_in(heads)
    return ({n: ("any", at) for at, n in enumerate(kinds)}, {n: ((), at) for at, n in enumerate(tails)})


def comes_of(first, second):
    """The pair of dicts by which, put in, first is second, both pairs (KIND, ROSTER); None of none."""
    kinds = {}
    tails = {}
    if not finds(first[0], second[0], kinds, tails) or not finds_roster(first[1], second[1], tails):
        return None
    return (kinds, tails)


def finds(kind, other, kinds, tails):
    """Whether a kind is another one with something put in; the dicts, which bind it, take what that is."""
    waiting = [(kind, other)]
    while waiting:
        part, like = waiting.pop()
        if is_roster_head(part):
            if not finds_roster(part, like, tails):
                return False
        elif is_open(part):
            if not alike(kinds.setdefault(part[1], like), like):
                return False
        elif part[0] != like[0]:
            return False
        elif part != "number":
            waiting.extend(list(zip(part[1:], like[1:]))[::-1])
    return True


def finds_roster(roster, other, tails):
    """Likewise of rosters."""
    labels, tail = roster
    if beyond(labels, other[0]):
        return False
    rest = (beyond(other[0], labels), other[1])
    if tail is None:
        return rest == ((), None)
    return tails.setdefault(tail, rest) == rest
