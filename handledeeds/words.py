"""Single words: NAMEs and plain figures."""

from handledeeds.limits import KEYWORDS
from handledeeds.limits import NAME_SIGNS


def is_name(thing):
    """Whether a thing, whatever it is, is a NAME."""
    if type(thing) is not str or len(thing) > NAME_SIGNS:
        return False
    return thing.isascii() and thing.isalpha() and thing.islower() and thing not in KEYWORDS


def is_plain(word):
    """Whether a word is a number, however long, in plain figures."""
    return word.isascii() and word.isdigit() and (word == "0" or not word.startswith("0"))


def is_figures(word, most):
    """Whether a word is a number up to most in plain figures."""
    # Measured first: Python itself refuses to read figures of some thousand signs.
    return len(word) <= len(str(most)) and is_plain(word) and int(word) <= most
