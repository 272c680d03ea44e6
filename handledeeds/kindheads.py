"""KINDs laid out as flat rows of their heads.

A head is "number", "pair", "fun", an open KIND as it is, or a whole ROSTER. They stand as the KIND is
read: each ahead of what's within, of a fun what's handed, the ROSTER, what's told. So KINDs of any
depth are changed and compared without calls within calls.
"""


def is_open(kind):
    """Whether a KIND, or a head of one, is open."""
    return kind[0] == "any"


def is_roster_head(head):
    """Whether a head is a ROSTER."""
    return type(head[0]) is tuple


def heads_of(kind):
    """The row of the heads of a KIND."""
    if kind == "number" or kind[0] == "any":
        return [kind]
    heads = []
    waiting = [kind]
    while waiting:
        part = waiting.pop()
        if part[0] == "pair" or part[0] == "fun":
            heads.append(part[0])
            waiting.extend(part[:0:-1])
        else:
            heads.append(part)
    return heads


def built(heads):
    """The KIND of which these are the heads."""
    if len(heads) == 1:
        return heads[0]
    done = []
    for head in heads[::-1]:
        if head == "pair":
            done.append(("pair", done.pop(), done.pop()))
        elif head == "fun":
            done.append(("fun", done.pop(), done.pop(), done.pop()))
        else:
            done.append(head)
    return done[0]


def alike(kind, other):
    """Whether two KINDs are one and the same, open ones by their numbers."""
    return heads_of(kind) == heads_of(other)


def opens_in(heads):
    """The pair of lists (numbers of open kinds, of open tails) in a row of heads, as they first stand."""
    kinds = {}
    tails = {}
    for head in heads:
        if is_open(head):
            kinds[head[1]] = True
        elif is_roster_head(head) and head[1] is not None:
            tails[head[1]] = True
    return (list(kinds), list(tails))


def labels_in(heads):
    """The list of all labels of the rosters in a row of heads."""
    found = []
    for head in heads:
        if is_roster_head(head):
            found.extend(head[0])
    return found
