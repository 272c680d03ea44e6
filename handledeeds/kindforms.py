"""Whether a thing is built as a KIND, or a ROSTER, is."""

from handledeeds.labels import is_label


def is_roster_within(thing, labels):
    """Whether a thing is a ROSTER of at most so many labels."""
    return is_roster_shape(thing) and len(thing[0]) <= labels and are_labels(thing[0])


def is_roster_shape(thing):
    """Whether a thing is a pair of a row of texts, maybe of labels, and a tail."""
    if type(thing) is not tuple or len(thing) != 2 or type(thing[0]) is not tuple:
        return False
    row, tail = thing
    if tail is not None and (type(tail) is not int or tail < 0):
        return False
    for label in row:
        if type(label) is not str:
            return False
    return True


def are_labels(row):
    """Whether a row of texts is one of labels that don't fall."""
    return all([is_label(label) for label in row]) and list(row) == sorted(row)


def is_kind_within(thing, parts, depth, labels):
    """Whether a thing is a KIND of at most so many parts, so deep, its rosters of so many labels."""
    waiting = [(thing, 1)]
    many = 0
    while waiting:
        part, deep = waiting.pop()
        many += 1
        if many > parts or deep > depth or not is_kind_shape(part):
            return False
        if part[0] == "fun" and not is_roster_within(part[2], labels):
            return False
        if part[0] == "pair" or part[0] == "fun":
            waiting.append((part[1], deep + 1))
            waiting.append((part[-1], deep + 1))
    return True


def is_kind_shape(thing):
    """Whether a thing is a KIND, but for the KINDs and the ROSTER within it, which may be anything."""
    if type(thing) is str:
        return thing == "number"
    if type(thing) is not tuple or len(thing) < 2 or type(thing[0]) is not str:
        return False
    if thing[0] == "any":
        return len(thing) == 2 and type(thing[1]) is int and thing[1] >= 0
    if thing[0] == "pair":
        return len(thing) == 3
    return thing[0] == "fun" and len(thing) == 4
