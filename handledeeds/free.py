"""Programs that can be run: of nothing free."""

from handledeeds.errors import NoAnswerer
from handledeeds.errors import NoName
from handledeeds.terms import answerers_free
from handledeeds.terms import free_keys
from handledeeds.terms import names_free


def need_nothing(term):
    """Refuse a term in which something stands for nothing, names ahead: NoName, NoAnswerer."""
    if not free_keys(term):
        return
    names = names_free(term)
    if names:
        raise NoName(names[0])
    raise NoAnswerer(answerers_free(term)[0])
