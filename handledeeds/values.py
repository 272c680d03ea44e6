"""VALUEs of a run.

A VALUE is ("num", n); ("pair", V, W, parts); ("fun", term, scope), the term a fun or a rec, and what its
free names stand for; ("kept", frames), what was left to do.
"""


def pair_of(first, second):
    """The pair of two VALUEs."""
    return ("pair", first, second, 1 + parts_of_value(first) + parts_of_value(second))


def parts_of_value(value):
    """How many parts a VALUE has: of a pair its own and those of both, of all else one."""
    return value[3] if value[0] == "pair" else 1


def told_value(value):
    """What is told of a VALUE."""
    # Pairs are never so large that calls within calls would be many.
    if value[0] == "pair":
        return (told_value(value[1]), told_value(value[2]))
    return value[1] if value[0] == "num" else "fun"


def value_of(answer):
    """The VALUE of an answer from without: a number, or a pair of such."""
    if type(answer) is tuple:
        return pair_of(value_of(answer[0]), value_of(answer[1]))
    return ("num", answer)
