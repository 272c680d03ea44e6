"""Images of machines: told, and read.

In an image a Thing is (MARK, number), the number being its place in the last row of the image, in
which each Thing stands once, in the order in which they are first mentioned.
"""

from handledeeds.machinestate import MachineState
from handledeeds.things import Thing

# Neither a NAME nor the word of a frame: nothing else in an image begins so.
MARK = "*"


def image_of(state):
    """The image of a machine's state: all of it but the rows."""
    teller = ImageTeller()
    counters = (state.calls, state.asked, state.resumed, state.unders, state.rows_done, state.moves)
    events = tuple(state.events)
    still = (state.scope, tuple(state.stack), tuple(state.answerers), tuple(state.pasts))
    told = teller.told(still)
    return (state.most, state.at, state.status, counters, events, told, teller.told_things())


class ImageTeller:
    """Tells what has Things in it."""

    def __init__(self):
        self.marks = {}
        self.found = []

    def told(self, part):
        """A part of a state with all Things in it told by their numbers."""
        if type(part) is tuple:
            return tuple([self.told(within) for within in part])
        if type(part) is Thing:
            return self.mark(part)
        return part

    def mark(self, thing):
        """What a Thing is told by."""
        if thing not in self.marks:
            self.marks[thing] = (MARK, len(self.found))
            self.found.append(thing)
        return self.marks[thing]

    def told_things(self):
        """The row of all Things that are mentioned, those mentioned in it too."""
        done = []
        while len(done) < len(self.found):
            thing = self.found[len(done)]
            done.append((thing.form, self.told(thing.fields)))
        return tuple(done)


def state_of(rows, image):
    """The state of a machine of these rows that has this image."""
    most, at, status, counters, events, told, things = image
    reader = ImageReader(things)
    state = MachineState(rows, most)
    state.status = status
    state.calls, state.asked, state.resumed, state.unders, state.rows_done, state.moves = counters
    state.events = list(events)
    scope, stack, answerers, pasts = reader.made_of(told)
    state.begin(at, scope)
    state.stack = list(stack)
    state.answerers = list(answerers)
    state.pasts = list(pasts)
    return state


class ImageReader:
    """Reads what was told of a state."""

    def __init__(self, things):
        # All are made ahead of their fields, as these mention others that stand behind.
        self.made = [Thing(form, ()) for form, _ in things]
        for thing, row in zip(self.made, things):
            thing.fields = self.made_of(row[1])

    def made_of(self, told):
        """The part of a state that was told so."""
        if type(told) is not tuple:
            return told
        if len(told) == 2 and told[0] == MARK:
            return self.made[told[1]]
        return tuple([self.made_of(within) for within in told])
