"""Where a run of a tree stands.

The tree is kept as the way from the whole to the PLACE that's come to: what is now there, and a frame
for each TERM around it, the innermost one last. A frame is never changed, so that what was kept can be
gone on with many times. A frame is (word, term, scope, told): the term with its word, what its free
names stand for, and the VALUEs of its parts so far, of an under the number that it has as this very
one. Of other make are

- ("waits", frames): what's left to do waits here for a quick clause;
- ("cleaned", value): the VALUE of a ward, of which U is run here;
- ("cleans", wards, term, scope): the U of a ward that was dropped is run here, then those of these
  wards, pairs (U, scope), then the clause.
"""

from handledeeds.values import told_value

GOING = ("going",)

LONG = ("long",)


class TreeState:
    """A run between two steps."""

    def __init__(self, term, most):
        self.most = most
        self.status = GOING
        self.events = []
        self.calls = 0
        self.asks = 0
        # How often what was left to do was gone on with, how many unders were come to.
        self.resumed = 0
        self.unders = 0
        # What is now at the PLACE that's come to: ("term", term, scope) or ("value", value).
        self.now = ("term", term, {})
        self.frames = []

    def copied(self):
        """A state of its own that is the same."""
        other = TreeState(None, self.most)
        other.status = self.status
        other.events = list(self.events)
        other.calls = self.calls
        other.asks = self.asks
        other.resumed = self.resumed
        other.unders = self.unders
        other.now = self.now
        other.frames = list(self.frames)
        return other

    def is_full(self):
        """Whether a call or an ask more would be one too many."""
        return self.calls + self.asks >= self.most

    def is_worn(self):
        """Whether going on once more with what was left to do would be once too often."""
        return self.resumed >= 2 * self.most

    def do_term(self, term, scope):
        """A term is next."""
        self.now = ("term", term, scope)

    def tell(self, value):
        """A VALUE is told to the innermost frame."""
        self.now = ("value", value)

    def leave(self, value):
        """The innermost frame comes to this VALUE."""
        self.frames.pop()
        self.now = ("value", value)

    def become(self, term, scope):
        """The innermost frame comes to this term."""
        self.frames.pop()
        self.now = ("term", term, scope)

    def go_on(self, frames, value):
        """What was left to do is gone on with by a VALUE."""
        self.resumed += 1
        self.frames.extend(list(frames))
        self.tell(value)

    def note_ask(self, deed, value):
        """A deed is asked."""
        self.asks += 1
        self.events.append(("ask", deed, told_value(value)))
