"""What open KINDs and open tails are found to be, and how two are made the same."""

from handledeeds.errors import Unlike
from handledeeds.kindheads import heads_of
from handledeeds.kindheads import is_open
from handledeeds.kindheads import is_roster_head
from handledeeds.kindheads import opens_in
from handledeeds.labels import beyond
from handledeeds.labels import joined


class Finder:
    """Opens by their numbers. One that was refused midway is of no use any more: try it with a copy."""

    def __init__(self):
        # What is found, by number: KINDs and ROSTERs in which there may be others that are found.
        self.kinds = {}
        self.tails = {}
        # How many of each were made.
        self.many_kinds = 0
        self.many_tails = 0

    def copied(self):
        """A Finder of its own that has found the same."""
        other = Finder()
        other.kinds = dict(self.kinds)
        other.tails = dict(self.tails)
        other.many_kinds = self.many_kinds
        other.many_tails = self.many_tails
        return other

    def make_kind(self):
        """A new open KIND."""
        self.many_kinds += 1
        return ("any", self.many_kinds - 1)

    def make_tail(self):
        """A new open ROSTER of no labels."""
        self.many_tails += 1
        return ((), self.many_tails - 1)

    def shown(self, kind):
        """The kind itself, or what it's found to be, with nothing put in further within."""
        while is_open(kind) and kind[1] in self.kinds:
            kind = self.kinds[kind[1]]
        return kind

    def whole_roster(self, roster):
        """The roster with all that's found put in."""
        labels, tail = roster
        while tail in self.tails:
            more, tail = self.tails[tail]
            labels = joined(labels, more)
        return (labels, tail)

    def whole_heads(self, heads):
        """The heads with all that's found put in."""
        return self.spread(heads, False)

    def first_heads(self, heads):
        """Likewise, but what a kind is found to be where that kind stands first alone.

        It's enough to see what stands in there, and stays short where the whole would not.
        """
        return self.spread(heads, True)

    def spread(self, heads, once):
        """The heads with all that's found put in, for each open kind once or each time."""
        done = []
        seen = {}
        waiting = heads[::-1]
        while waiting:
            head = waiting.pop()
            if is_roster_head(head):
                done.append(self.whole_roster(head))
            elif not is_open(head) or head[1] not in self.kinds:
                done.append(head)
            elif not once or head[1] not in seen:
                seen[head[1]] = True
                waiting.extend(heads_of(self.kinds[head[1]])[::-1])
        return done

    def unite(self, kind, other):
        """Find what makes both kinds the same; Unlike where nothing does."""
        waiting = [(kind, other)]
        seen = {}
        while waiting:
            left, right = waiting.pop()
            if is_open(left) and is_open(right):
                # What two kinds are found to be is compared once, wherever they meet again.
                if (left[1], right[1]) in seen:
                    continue
                seen[(left[1], right[1])] = True
            waiting.extend(self.unite_heads(self.shown(left), self.shown(right)))

    def unite_heads(self, left, right):
        """Likewise of what two kinds are shown to be; the pairs within that are to be the same are told."""
        if is_open(left):
            self.bind(left, right)
            return []
        if is_open(right):
            self.bind(right, left)
            return []
        if left[0] != right[0]:
            raise Unlike()
        if left == "number":
            return []
        if left[0] == "fun":
            self.unite_rosters(left[2], right[2])
        return [(left[-1], right[-1]), (left[1], right[1])]

    def bind(self, opened, kind):
        """An open kind is found to be another one; Unlike where it would be within itself."""
        if kind == opened:
            return
        if opened[1] in opens_in(self.first_heads(heads_of(kind)))[0]:
            raise Unlike()
        self.kinds[opened[1]] = kind

    def unite_rosters(self, roster, other):
        """Find what makes both rosters the same; Unlike where nothing does."""
        labels, tail = self.whole_roster(roster)
        others, other_tail = self.whole_roster(other)
        more = beyond(labels, others)
        missing = beyond(others, labels)
        if tail == other_tail:
            if more or missing:
                raise Unlike()
        elif more and missing:
            rest = self.make_tail()[1]
            self.go_on(tail, missing, rest)
            self.go_on(other_tail, more, rest)
        elif missing or not more and other_tail is None:
            self.go_on(tail, missing, other_tail)
        else:
            self.go_on(other_tail, more, tail)

    def go_on(self, tail, labels, rest):
        """A tail is found to be these labels and what's behind them; Unlike where it's closed."""
        if tail is None:
            raise Unlike()
        self.tails[tail] = (labels, rest)
