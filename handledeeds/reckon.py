"""What OPS do to numbers."""

from handledeeds.limits import MODULUS


def reckoned(word, first, second):
    """The number that an op of this word makes of two."""
    if word == "plus":
        return (first + second) % MODULUS
    if word == "less":
        return (first - second) % MODULUS
    if word == "times":
        return first * second % MODULUS
    return 1 if first < second else 0
