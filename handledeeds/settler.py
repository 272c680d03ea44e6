"""Telling what a Finder has found, open ones numbered anew from 0 as they first stand."""

from handledeeds.kindheads import built
from handledeeds.kindheads import is_roster_head


class Settler:
    """What's told of a Finder's KINDs and ROSTERs, one behind the other."""

    def __init__(self, found):
        self.found = found
        # By the numbers that they had; rosters as they were.
        self.kinds = {}
        self.tails = {}
        self.rosters = {}

    def settled_kind(self, kind):
        """A KIND with all that's found put in, numbered anew."""
        kind = self.found.shown(kind)
        if kind == "number":
            return kind
        heads = []
        waiting = [kind]
        while waiting:
            part = self.found.shown(waiting.pop())
            word = part[0]
            if word == "pair" or word == "fun":
                heads.append(word)
                waiting.extend(part[:0:-1])
            elif word == "any":
                heads.append(self.kinds.setdefault(part[1], ("any", len(self.kinds))))
            else:
                heads.append(self.settled_roster(part) if is_roster_head(part) else part)
        return built(heads)

    def settled_roster(self, roster):
        """A ROSTER likewise."""
        if roster not in self.rosters:
            labels, tail = self.found.whole_roster(roster)
            if tail is not None:
                tail = self.tails.setdefault(tail, len(self.tails))
            self.rosters[roster] = (labels, tail)
        return self.rosters[roster]
