"""Whether a thing is built as a KIND, or a ROSTER, is."""

from handledeeds.labels import is_label


def past_bound(many, most):
    """Whether these are more than most, which is None where there's no bound."""
    return most is not None and many > most


def is_open_number(thing):
    """Whether a thing may be the number of something open."""
    return type(thing) is int and thing >= 0


def is_roster_within(thing, labels):
    """Whether a thing is a ROSTER of at most so many labels."""
    if type(thing) is not tuple or len(thing) != 2 or type(thing[0]) is not tuple:
        return False
    row, tail = thing
    if past_bound(len(row), labels) or not all([is_label(label) for label in row]):
        return False
    return list(row) == sorted(row) and (tail is None or is_open_number(tail))


def is_kind_within(thing, parts, depth, labels):
    """Whether a thing is a KIND of at most so many parts, so deep, its rosters of so many labels."""
    waiting = [(thing, 1)]
    many = 0
    while waiting:
        part, deep = waiting.pop()
        many += 1
        if past_bound(many, parts) or past_bound(deep, depth) or not is_kind_head(part, labels):
            return False
        if part[0] == "pair" or part[0] == "fun":
            waiting.append((part[1], deep + 1))
            waiting.append((part[-1], deep + 1))
    return True


def is_kind_head(thing, labels):
    """Whether a thing is a KIND, but for the KINDs within it, which may be anything."""
    if type(thing) is str:
        return thing == "number"
    if type(thing) is not tuple or len(thing) < 2 or type(thing[0]) is not str:
        return False
    if thing[0] == "any":
        return len(thing) == 2 and is_open_number(thing[1])
    if thing[0] == "pair":
        return len(thing) == 3
    return thing[0] == "fun" and len(thing) == 4 and is_roster_within(thing[2], labels)
