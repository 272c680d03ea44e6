"""Programs run as trees, step by step."""

from handledeeds.errors import NotAsked
from handledeeds.free import need_nothing
from handledeeds.limits import MOST
from handledeeds.runs import run_answered
from handledeeds.treeform import NOTHING
from handledeeds.treeform import tree_of
from handledeeds.treestate import GOING
from handledeeds.treestate import TreeState
from handledeeds.treesteps import do_step
from handledeeds.treesteps import find_step
from handledeeds.values import value_of


class TreeRun:
    """A run of a program; at most so many calls and asks, together."""

    def __init__(self, term, *, most=MOST):
        need_nothing(term)
        self._state = TreeState(term, most)

    def step(self):
        """Do a step: True; False where none can be."""
        if not find_step(self._state):
            return False
        do_step(self._state)
        # So that it's known at once where no further step can be.
        find_step(self._state)
        return True

    def run(self):
        """Do steps till none can be: the outcome."""
        while find_step(self._state):
            do_step(self._state)
        return self.outcome()

    def outcome(self):
        """What the run has come to so far."""
        return self._state.status

    def answer(self, value):
        """Answer what is asked from without; NotAsked where the run doesn't wait."""
        state = self._state
        if state.status[0] != "asks":
            raise NotAsked()
        state.status = GOING
        state.leave(value_of(value))

    def trace(self):
        """The list of what was asked and cleaned."""
        return list(self._state.events)

    def counts(self):
        """The pair (calls, asks)."""
        return (self._state.calls, self._state.asks)

    def term(self):
        """The tree as it stands, as a TERM; None where there's none."""
        state = self._state
        if state.status != GOING and state.status[0] != "done":
            return None
        return tree_of(state.now, state.frames)

    def like(self):
        """A run of its own that is the same."""
        other = TreeRun(NOTHING)
        other._state = self._state.copied()
        return other


def told_of(term, *, answers=(), most=MOST):
    """The pair (outcome, trace) of a run of which as many asks are answered as there are answers."""
    return run_answered(TreeRun(term, most=most), answers)
