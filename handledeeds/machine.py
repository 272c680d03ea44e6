"""A machine for rows, which keeps what's still to do in pieces."""

from handledeeds.errors import NotAsked
from handledeeds.limits import MOST
from handledeeds.limits import STEPS
from handledeeds.machineimage import image_of
from handledeeds.machineimage import stand_as
from handledeeds.machinerows import do_rows
from handledeeds.machinestate import MachineState
from handledeeds.runs import run_answered


class Machine:
    """A run of rows, row by row; at most so many calls and asks, together."""

    def __init__(self, rows, *, most=MOST):
        self._state = MachineState(list(rows), most)
        # The image, where it was told and nothing was done since.
        self._told = None

    def go(self, *, steps=STEPS):
        """Do at most so many rows: how many were done."""
        self._told = None
        return do_rows(self._state, steps)

    def run(self):
        """Do rows till none can be done: the outcome."""
        self._told = None
        while do_rows(self._state, STEPS) > 0:
            pass
        return self.outcome()

    def outcome(self):
        """What the run has come to so far."""
        return ("going",) if self._state.status is None else self._state.status

    def answer(self, value):
        """Answer what is asked from without; NotAsked where the run doesn't wait."""
        if self.outcome()[0] != "asks":
            raise NotAsked()
        self._told = None
        self._state.take_answer(value)

    def trace(self):
        """The list of what was asked and cleaned."""
        return list(self._state.events)

    def counts(self):
        """The pair (calls, asks)."""
        return (self._state.calls, self._state.asked)

    def steps(self):
        """How many rows are done."""
        return self._state.rows_done

    def moved(self):
        """How many answerers' pieces were put into what is kept, or taken out of it."""
        return self._state.moves

    def depth(self):
        """How many pieces there are, the outermost one counted, those that wait not."""
        return len(self._state.pasts)

    def image(self):
        """All that is to be known of the machine beside its rows, as a tuple."""
        if self._told is None:
            self._told = image_of(self._state)
            # So it's soon told that another one, made of this image, is the same.
            stand_as(self._state, self._told)
        return self._told

    def like(self):
        """A machine of its own, the same."""
        other = Machine([])
        other._state = self._state.copied()
        other._told = self._told
        return other

    def __eq__(self, other):
        if not isinstance(other, Machine):
            return False
        state, others = self._state, other._state
        if state.rows != others.rows or state.head() != others.head():
            return False
        # In images things that are mentioned no more don't count, nor the order in which they were made.
        return state.rest() == others.rest() or image_of(state) == image_of(others)


def machine_of(rows, image):
    """A machine of these rows that is as the one that told the image was."""
    machine = Machine(rows)
    machine._told = image
    stand_as(machine._state, image)
    return machine


def told_by(rows, *, answers=(), most=MOST):
    """The pair (outcome, trace) of a run of which as many asks are answered as there are answers."""
    return run_answered(Machine(rows, most=most), answers)
