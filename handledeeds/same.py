"""Whether two things are one and the same."""


def is_same(thing, other):
    """Whether two things are the same in all their parts, of which True is no number, a list no tuple."""
    # To Python True is 1; but for such it tells at once what isn't the same.
    return thing == other and is_same_make(thing, other)


def is_same_make(thing, other):
    """Likewise of things that are the same to Python."""
    if type(thing) is list or type(thing) is tuple:
        return all([is_same_make(left, right) for left, right in zip(thing, other)])
    return type(thing) is type(other)
