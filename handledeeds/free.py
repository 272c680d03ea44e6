"""Programs that can be run: of nothing free."""

from handledeeds.errors import NoAnswerer
from handledeeds.errors import NoName
from handledeeds.terms import answerers_free
from handledeeds.terms import names_free


def need_nothing(term):
    """Refuse a term in which something stands for nothing, names ahead: NoName, NoAnswerer."""
    names = names_free(term)
    if names:
        raise NoName(names[0])
    answerers = answerers_free(term)
    if answerers:
        raise NoAnswerer(answerers[0])
