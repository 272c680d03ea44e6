"""Telling what a Finder has found, open ones numbered anew from 0 as they first stand."""

from handledeeds.kindheads import built
from handledeeds.kindheads import is_roster_head


class Settler:
    """What's told of a Finder's KINDs and ROSTERs, one behind the other."""

    def __init__(self, found):
        self.found = found
        # By the numbers that they had; rosters as they were.
        self.kinds = {}
        self.tails = {}
        self.rosters = {}
        # What was told of open kinds, by these numbers: all in it is numbered, so that it stays.
        self.told_kinds = {}

    def settled_kind(self, kind):
        """A KIND with all that's found put in, numbered anew."""
        if kind == "number":
            return kind
        if kind[0] != "any":
            return self.settled_whole(kind)
        if kind[1] not in self.told_kinds:
            self.told_kinds[kind[1]] = self.settled_whole(kind)
        return self.told_kinds[kind[1]]

    def settled_whole(self, kind):
        """Likewise, from the first part to the last one."""
        found = self.found.kinds
        heads = []
        waiting = [kind]
        while waiting:
            part = waiting.pop()
            while part[0] == "any" and part[1] in found:
                part = found[part[1]]
            word = part[0]
            if word == "pair" or word == "fun":
                heads.append(word)
                waiting.extend(part[:0:-1])
            elif word == "any":
                heads.append(self.kinds.setdefault(part[1], ("any", len(self.kinds))))
            else:
                heads.append(self.settled_roster(part) if is_roster_head(part) else part)
        return built(heads)

    def settled_roster(self, roster):
        """A ROSTER likewise."""
        if roster not in self.rosters:
            labels, tail = self.found.whole_roster(roster)
            if tail is not None:
                tail = self.tails.setdefault(tail, len(self.tails))
            self.rosters[roster] = (labels, tail)
        return self.rosters[roster]
