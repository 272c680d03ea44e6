"""VALUEs of a machine.

A VALUE is a number, or the mark of a thing: (MARK, n), n being the thing's number among all that were made.
Things are pairs (form, fields), never changed, that stand in images as they are. Fields, by the form:

- "pair": (first, second, parts);
- "fun", "rec": (at, scope), the row where its T begins, and what stands around it;
- "held": (stack, answerers, pasts, at, scope), what was left to do: what is kept, or waits for a quick
  answer. Of a machine's state (there it's told what these are) it's what was taken out of it.
"""

# Neither a NAME nor the word of a frame: nothing else in a machine begins so.
MARK = "*"


def make_thing(things, form, fields):
    """Make a thing: its mark."""
    things.append((form, fields))
    return (MARK, len(things) - 1)


def form_of(things, value):
    """The form of a VALUE, of a number "num"."""
    return "num" if type(value) is int else things[value[1]][0]


def parts_of_thing(things, value):
    """How many parts a VALUE has: of a pair its own and those of both, of all else one."""
    if type(value) is int:
        return 1
    form, fields = things[value[1]]
    return fields[2] if form == "pair" else 1


def told_thing(things, value):
    """What is told of a VALUE."""
    if type(value) is int:
        return value
    form, fields = things[value[1]]
    if form == "pair":
        # Pairs are never so large that calls within calls would be many.
        return (told_thing(things, fields[0]), told_thing(things, fields[1]))
    return "fun"


def thing_of(things, answer):
    """The VALUE of an answer from without: a number, or a pair of such, which is made."""
    if type(answer) is not tuple:
        return answer
    first, second = thing_of(things, answer[0]), thing_of(things, answer[1])
    parts = 1 + parts_of_thing(things, first) + parts_of_thing(things, second)
    return make_thing(things, "pair", (first, second, parts))
