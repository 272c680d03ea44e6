"""The texts of TERMs: told, and read."""

from handledeeds.errors import BadText
from handledeeds.termreader import Reader
from handledeeds.terms import is_term


def text_of(term):
    """The text of a term."""
    words = []
    waiting = [term]
    while waiting:
        item = waiting.pop()
        if isinstance(item, str):
            words.append(item)
        else:
            waiting.extend(spelled(item)[::-1])
    return " ".join(words)


def spelled(term):
    """What a term's text is made of, in order: words, and the TERMs straight within it."""
    word = term[0]
    if word == "num":
        return [str(term[1])]
    if word == "name" or word == "op":
        return list(term[1:])
    if word == "handle":
        return [term[1], term[2], *then_spelled(term)]
    if word == "under":
        return ["under", term[1], term[2], *then_spelled(term)]
    return list(term)


def then_spelled(term):
    """Likewise what stands behind T of an answerer."""
    found = [*term[3], str(len(term[4]))]
    for deed, how, x, k, body in term[4]:
        found.extend([how, deed, x, k, body] if how == "many" else [how, deed, x, body])
    return found


def term_in(text):
    """The TERM whose text this is; BadText where there is none."""
    words = text.split(" ")
    reader = Reader()
    for at, word in enumerate(words):
        if not reader.takes(word):
            raise BadText(at)
    # Where the text ends too early there's no whole, and None is no TERM either.
    if not is_term(reader.whole):
        raise BadText(len(words))
    return reader.whole
