"""Whether two things are one and the same."""


def is_same(thing, other):
    """Whether two things are the same in all their parts, of which True is no number, a list no tuple."""
    # To Python True is 1; written out it isn't. But for such, what isn't the same is told at once.
    return thing == other and repr(thing) == repr(other)
