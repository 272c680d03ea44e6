"""LABELs, single ones and rows of them."""

from handledeeds.words import is_name
from handledeeds.words import is_plain


def is_label(thing):
    """Whether a thing, whatever it is, is a LABEL: a deed, or a deed of a called answerer."""
    if type(thing) is not str:
        return False
    place, colon, deed = thing.rpartition(":")
    if not is_name(deed):
        return False
    return colon == "" or place == "" or all([is_plain(word) for word in place.split(".")])


def written_label(place, deed):
    """The LABEL of a deed of the answerer that is called at a PLACE."""
    steps = ".".join([str(step) for step in place])
    return f"{steps}:{deed}"


def joined(labels, more):
    """The labels of both rows beside one another, as they rise."""
    return tuple(sorted(labels + more)) if more else labels


def beyond(labels, other):
    """The labels of the first row that it has more than the other one, each as often."""
    if not labels or labels == other:
        return ()
    rest = list(labels)
    for label in other:
        if label in rest:
            rest.remove(label)
    return tuple(rest)
