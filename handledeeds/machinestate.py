"""Where a machine stands.

What is still to do is a stack of VALUEs and frames, the innermost ones last, and a row of the answerers
that were come to and not left. An answerer is (row, scope, number, base): the number of its row, what
stands around it, of an under its own number, else None, and where in the stack its piece begins.
A frame is a tuple that begins with a word:

- ("back", at, scope): what's told is told to the row at, around which the scope stands;
- ("waits", held): what's left to do waits here for a quick clause;
- ("ward", at, scope): T of a ward is done here, its U begins at the row at;
- ("cleaned", value, at): U of a ward is done here; then its VALUE is told to the row at;
- ("cleans", wards, at, scope): U of a ward that was dropped is done here, then those of these wards,
  pairs (at, scope), then the clause that begins at the row at.

What stands around is a tuple of VALUEs, and of numbers of unders, the innermost one last. These fall
below 0, so that they are none of the numbers that are VALUEs.
"""

from handledeeds.things import make_thing
from handledeeds.things import thing_of
from handledeeds.things import told_thing


class MachineState:
    """A machine between two rows."""

    def __init__(self, rows, most):
        self.rows = rows
        self.most = most
        # The outcome; None as long as it goes on.
        self.status = None
        self.events = []
        self.calls = 0
        self.asked = 0
        # How often what was left to do was gone on with, how many unders were come to.
        self.resumed = 0
        self.unders = 0
        self.rows_done = 0
        self.moves = 0
        self.at = 0
        self.scope = ()
        self.stack = []
        self.answerers = []
        # The deeds that are passed, outward of all answerers, then piece by piece; None of a pastof.
        self.pasts = [()]
        # All things that were made, also those that no mark is left of.
        self.things = []

    def copied(self):
        """A state of its own that is the same."""
        other = MachineState(self.rows, self.most)
        other.take_head(self.head())
        other.take_rest(self.rest())
        return other

    def head(self):
        """What it tells of itself that no VALUE stands in, but for the rows."""
        counters = (self.calls, self.asked, self.resumed, self.unders, self.rows_done, self.moves)
        return (self.most, self.at, self.status, counters, tuple(self.events))

    def take_head(self, head):
        """From now on it has this head."""
        self.most, self.at, self.status, counters, events = head
        self.calls, self.asked, self.resumed, self.unders, self.rows_done, self.moves = counters
        self.events = list(events)

    def rest(self):
        """What it tells beside that: (what VALUEs stand in, the things)."""
        still = (self.scope, tuple(self.stack), tuple(self.answerers), tuple(self.pasts))
        return (still, tuple(self.things))

    def take_rest(self, rest):
        """From now on it has this rest."""
        still, things = rest
        self.scope, stack, answerers, pasts = still
        self.stack = list(stack)
        self.answerers = list(answerers)
        self.pasts = list(pasts)
        self.things = list(things)

    def is_full(self):
        """Whether a call or an ask more would be one too many."""
        return self.calls + self.asked >= self.most

    def is_worn(self):
        """Whether going on once more with what was left to do would be once too often."""
        return self.resumed >= 2 * self.most

    def note_ask(self, deed, value):
        """A deed is asked."""
        self.asked += 1
        self.events.append(("ask", deed, told_thing(self.things, value)))

    def take_answer(self, value):
        """What is asked from without is answered."""
        self.status = None
        self.stack.append(thing_of(self.things, value))

    def taken(self, number, at):
        """What is left to do, the row at being next, from an answerer on: taken out of all there is, its mark."""
        base = self.answerers[number][3]
        answerers = [(row, scope, under, start - base) for row, scope, under, start in self.answerers[number:]]
        stack = tuple(self.stack[base:])
        pasts = tuple(self.pasts[number + 1:])
        self.drop(number)
        return make_thing(self.things, "held", (stack, tuple(answerers), pasts, at, self.scope))

    def drop(self, number):
        """All pieces from an answerer on are gone."""
        del self.stack[self.answerers[number][3]:]
        del self.answerers[number:]
        del self.pasts[number + 1:]

    def go_on(self, held, value):
        """What was left to do is gone on with by a VALUE: the row that's next."""
        stack, answerers, pasts, at, scope = self.things[held[1]][1]
        base = len(self.stack)
        # A shallow one doesn't stand around what's left of its T.
        first = 1 if self.rows[answerers[0][0]][1] == "shallow" else 0
        if first == 1:
            self.pasts[-1] = self.pasts[-1] + pasts[0]
        self.resumed += 1
        self.stack.extend(stack)
        self.stack.append(value)
        self.answerers.extend([(row, around, under, base + start) for row, around, under, start in answerers[first:]])
        self.pasts.extend(pasts[first:])
        self.scope = scope
        return at
