"""VALUEs of a machine.

A VALUE is a number, or a Thing. A Thing is one and the same wherever it's mentioned, and is never
changed, so that it's told once in an image however often it's mentioned. Its fields, by its form:

- "pair": (first, second, parts);
- "fun", "rec": (at, scope), the row where its T begins, and what stands around it;
- "held": (stack, answerers, pasts, at, scope), what was left to do: what is kept, or waits for a quick
  answer. Of a machine's state (there it's told what these are) it's what was taken out of it.
"""


class Thing:
    """A VALUE that isn't a number."""

    def __init__(self, form, fields):
        self.form = form
        self.fields = fields


def is_thing(value, form):
    """Whether a VALUE is a Thing of this form."""
    return type(value) is Thing and value.form == form


def parts_of_thing(value):
    """How many parts a VALUE has: of a pair its own and those of both, of all else one."""
    return value.fields[2] if is_thing(value, "pair") else 1


def pair_thing(first, second):
    """The pair of two VALUEs."""
    return Thing("pair", (first, second, 1 + parts_of_thing(first) + parts_of_thing(second)))


def told_thing(value):
    """What is told of a VALUE."""
    if type(value) is int:
        return value
    if value.form == "pair":
        # Pairs are never so large that calls within calls would be many.
        return (told_thing(value.fields[0]), told_thing(value.fields[1]))
    return "fun"


def thing_of(answer):
    """The VALUE of an answer from without: a number, or a pair of such."""
    if type(answer) is tuple:
        return pair_thing(thing_of(answer[0]), thing_of(answer[1]))
    return answer
