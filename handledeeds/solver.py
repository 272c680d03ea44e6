"""A solver of KINDs and ROSTERs."""

from handledeeds.errors import Unlike
from handledeeds.finder import Finder
from handledeeds.kindheads import opens_in
from handledeeds.labels import joined


class Solver:
    """Open kinds and open tails, and what they're found to be."""

    def __init__(self):
        self._found = Finder()

    def new_kind(self):
        """An open KIND, apart from all others."""
        return self._found.make_kind()

    def new_tail(self):
        """An open ROSTER of no labels, apart from all others."""
        return self._found.make_tail()

    def same(self, kind, other):
        """From now on both kinds are the same; Unlike, and nothing is found, where they can't be."""
        # What's found ahead of a refusal is taken back.
        mark = self._found.mark()
        try:
            self._found.unite(kind, other)
        except Unlike:
            self._found.back_to(mark)
            raise

    def same_roster(self, roster, other):
        """From now on both rosters are the same; Unlike, and nothing is found, where they can't be."""
        mark = self._found.mark()
        try:
            self._found.unite_rosters(roster, other)
        except Unlike:
            self._found.back_to(mark)
            raise

    def close(self, roster):
        """Close the tail of a roster, so that it has no more labels."""
        tail = self._found.whole_roster(roster)[1]
        if tail is not None:
            self._found.go_on(tail, (), None)

    def with_labels(self, roster, labels):
        """The ROSTER with these labels more."""
        row, tail = self._found.whole_roster(roster)
        return (joined(row, labels), tail)

    def told(self, kind):
        """The kind, as far as is found."""
        return self._found.whole_kind(kind)

    def told_roster(self, roster):
        """The roster, as far as is found."""
        return self._found.whole_roster(roster)

    def opens(self, kind, roster):
        """opens_of of both as they're told, the kind ahead."""
        return opens_in(self._found.first_heads([kind, roster]))

    def like(self):
        """A Solver of its own that is the same, and goes on alike."""
        other = Solver()
        other._found = self._found.copied()
        return other
