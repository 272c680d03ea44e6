"""The tree of a run as it stands, as a TERM."""

from handledeeds.limits import TREE_DEPTH
from handledeeds.limits import TREE_PARTS
from handledeeds.shapes import BINDERS
from handledeeds.shapes import bindings
from handledeeds.shapes import called_key
from handledeeds.shapes import inner
from handledeeds.shapes import rebuilt

# What is told of a place that can't be told, and with that nothing of the whole.
NOTHING = ("num", 0)

# The words of frames of which no TERM is told.
UNTOLD = {
    "under": True,
    "waits": True,
    "cleaned": True,
    "cleans": True,
}


def tree_of(now, frames):
    """The TERM of what is now at a PLACE and of the frames around it; None where there's none."""
    if len(frames) >= TREE_DEPTH or any([frame[0] in UNTOLD for frame in frames]):
        return None
    teller = Teller()
    depth = len(frames) + 1
    tree = teller.tell_value(now[1], depth) if now[0] == "value" else teller.tell(now[1], now[2], depth)
    for frame in frames[::-1]:
        depth -= 1
        tree = teller.tell_frame(frame, tree, depth)
    return tree if teller.tells else None


class Teller:
    """What is told of a tree, as long as it can be: not too large, nor of what TERMs don't have."""

    def __init__(self):
        self.tells = True
        self.left = TREE_PARTS

    def takes(self, depth):
        """Whether a part more, that's so deep in the whole, can still be told."""
        self.left -= 1
        if self.left < 0 or depth > TREE_DEPTH:
            self.tells = False
        return self.tells

    def tell(self, term, scope, depth):
        """The TERM with what its free names stand for put in."""
        word = term[0]
        if word == "name" and term[1] in scope:
            return self.tell_value(scope[term[1]], depth)
        if not self.takes(depth):
            return NOTHING
        if word == "num" or word == "name":
            return term
        # No deeper than what may be told: few calls within calls.
        return rebuilt(term, self.tell_parts(term, scope, 0, depth))

    def tell_parts(self, term, scope, first, depth):
        """Likewise the list of the TERMs straight within a term of this depth, from the first one on."""
        word = term[0]
        if word == "askof" or word == "pastof":
            self.check_answerer(term[1], scope)
        parts = inner(term)[first:]
        if word not in BINDERS:
            return [self.tell(part, scope, depth + 1) for part in parts]
        hidden = bindings(term)[first:]
        return [self.tell(part, without(scope, keys), depth + 1) for part, keys in zip(parts, hidden)]

    def check_answerer(self, called, scope):
        """No TERM tells of which very one it asks: an under that was come to."""
        if called_key(called) in scope:
            self.tells = False

    def tell_value(self, value, depth):
        """The TERM of a VALUE; of what is kept there's none."""
        if value[0] == "fun":
            return self.tell(value[1], value[2], depth)
        if value[0] == "kept" or not self.takes(depth):
            self.tells = False
            return NOTHING
        if value[0] == "num":
            return value
        return ("two", self.tell_value(value[1], depth + 1), self.tell_value(value[2], depth + 1))

    def tell_frame(self, frame, tree, depth):
        """The TERM of a frame with a tree at the place that's come to."""
        if not self.takes(depth):
            return NOTHING
        _, term, scope, told = frame
        ahead = [self.tell_value(value, depth + 1) for value in told]
        return rebuilt(term, [*ahead, tree, *self.tell_parts(term, scope, len(told) + 1, depth)])


def without(scope, keys):
    """The scope without what these keys hide."""
    for key in keys:
        if key in scope:
            return {other: scope[other] for other in scope if other not in keys}
    return scope
