"""Single words: NAMEs and plain figures."""

from handledeeds.limits import KEYWORDS
from handledeeds.limits import NAME_SIGNS


def is_name(thing):
    """Whether a thing, whatever it is, is a NAME."""
    if type(thing) is not str or len(thing) > NAME_SIGNS:
        return False
    return thing.isascii() and thing.isalpha() and thing.islower() and thing not in KEYWORDS


def is_figures(word, most):
    """Whether a word is a number up to most in plain figures."""
    if not word.isascii() or not word.isdigit():
        return False
    # Measured first: Python itself refuses to read figures of some thousand signs.
    if len(word) > len(str(most)) or word != "0" and word.startswith("0"):
        return False
    return int(word) <= most
