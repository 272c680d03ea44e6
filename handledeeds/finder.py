"""What open KINDs and open tails are found to be, and how two are made the same."""

from handledeeds.errors import Unlike
from handledeeds.kindheads import built
from handledeeds.kindheads import is_roster_head
from handledeeds.labels import beyond
from handledeeds.labels import joined


class Finder:
    """Opens by their numbers. What is found ahead of a refusal stays found, but for what back_to takes back."""

    def __init__(self):
        # What is found, by number: KINDs and ROSTERs in which there may be others that are found.
        self.kinds = {}
        self.tails = {}
        # How many of each were made.
        self.many_kinds = 0
        self.many_tails = 0

    def copied(self):
        """A Finder of its own that has found the same."""
        other = Finder()
        other.kinds = dict(self.kinds)
        other.tails = dict(self.tails)
        other.many_kinds = self.many_kinds
        other.many_tails = self.many_tails
        return other

    def mark(self):
        """What back_to is handed to take back all that's found from now on."""
        return (len(self.kinds), len(self.tails), self.many_tails)

    def back_to(self, mark):
        """Take back what was found since a mark; what's made of kinds stays made."""
        kinds, tails, self.many_tails = mark
        # A dict keeps the order in which things are found.
        for number in list(self.kinds)[kinds:]:
            del self.kinds[number]
        for number in list(self.tails)[tails:]:
            del self.tails[number]

    def make_kind(self):
        """A new open KIND."""
        self.many_kinds += 1
        return ("any", self.many_kinds - 1)

    def make_tail(self):
        """A new open ROSTER of no labels."""
        self.many_tails += 1
        return ((), self.many_tails - 1)

    def shown(self, kind):
        """The kind itself, or what it's found to be, with nothing put in further within."""
        while kind[0] == "any" and kind[1] in self.kinds:
            kind = self.kinds[kind[1]]
        return kind

    def whole_roster(self, roster):
        """The roster with all that's found put in."""
        labels, tail = roster
        while tail in self.tails:
            more, tail = self.tails[tail]
            labels = joined(labels, more)
        return (labels, tail)

    def whole_kind(self, kind):
        """The kind with all that's found put in."""
        kind = self.shown(kind)
        if kind == "number" or kind[0] == "any":
            return kind
        return built(self.whole_heads([kind]))

    def whole_heads(self, parts):
        """The heads of KINDs and ROSTERs, one behind the other, with all that's found put in."""
        return self.spread(parts, False)

    def first_heads(self, parts):
        """Likewise, but what a kind is found to be where that kind stands first alone.

        It's enough to see what stands in there, and stays short where the whole would not.
        """
        return self.spread(parts, True)

    def spread(self, parts, once):
        """The heads with all that's found put in, for each open kind once or each time."""
        done = []
        seen = {}
        waiting = parts[::-1]
        while waiting:
            part = waiting.pop()
            word = part[0]
            if word == "pair" or word == "fun":
                done.append(word)
                waiting.extend(part[:0:-1])
            elif word == "any" and part[1] in self.kinds:
                if not once or part[1] not in seen:
                    seen[part[1]] = True
                    waiting.append(self.kinds[part[1]])
            else:
                done.append(self.whole_roster(part) if is_roster_head(part) else part)
        return done

    def unite(self, kind, other):
        """Find what makes both kinds the same; Unlike where nothing does."""
        found = self.kinds
        waiting = [(kind, other)]
        seen = {}
        while waiting:
            left, right = waiting.pop()
            if left[0] == "any" and right[0] == "any":
                # What two kinds are found to be is compared once, wherever they meet again.
                if (left[1], right[1]) in seen:
                    continue
                seen[(left[1], right[1])] = True
            while left[0] == "any" and left[1] in found:
                left = found[left[1]]
            while right[0] == "any" and right[1] in found:
                right = found[right[1]]
            if left[0] == "any":
                self.bind(left[1], right)
            elif right[0] == "any":
                self.bind(right[1], left)
            elif left[0] != right[0]:
                raise Unlike()
            elif left[0] == "pair":
                waiting.extend([(left[2], right[2]), (left[1], right[1])])
            elif left[0] == "fun":
                self.unite_rosters(left[2], right[2])
                waiting.extend([(left[3], right[3]), (left[1], right[1])])

    def bind(self, number, kind):
        """The open kind of a number is found to be another one; Unlike where it would be within itself."""
        if kind[0] == "any":
            # Nothing is found of this one.
            if kind[1] != number:
                self.kinds[number] = kind
            return
        if kind != "number" and self.stands_in(number, kind):
            raise Unlike()
        self.kinds[number] = kind

    def stands_in(self, number, kind):
        """Whether the open kind of a number, of which nothing is found, stands in a kind."""
        waiting = [kind]
        seen = {}
        while waiting:
            part = waiting.pop()
            word = part[0]
            if word == "pair":
                waiting.extend(part[1:])
            elif word == "fun":
                waiting.extend(part[1::2])
            elif word == "any":
                if part[1] == number:
                    return True
                if part[1] in self.kinds and part[1] not in seen:
                    seen[part[1]] = True
                    waiting.append(self.kinds[part[1]])
        return False

    def unite_rosters(self, roster, other):
        """Find what makes both rosters the same; Unlike where nothing does."""
        labels, tail = self.whole_roster(roster)
        others, other_tail = self.whole_roster(other)
        more = beyond(labels, others)
        missing = beyond(others, labels)
        if tail == other_tail:
            if more or missing:
                raise Unlike()
        elif more and missing:
            rest = self.make_tail()[1]
            self.go_on(tail, missing, rest)
            self.go_on(other_tail, more, rest)
        elif missing or not more and other_tail is None:
            self.go_on(tail, missing, other_tail)
        else:
            self.go_on(other_tail, more, tail)

    def go_on(self, tail, labels, rest):
        """A tail is found to be these labels and what's behind them; Unlike where it's closed."""
        if tail is None:
            raise Unlike()
        self.tails[tail] = (labels, rest)
