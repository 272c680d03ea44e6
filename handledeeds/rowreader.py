"""What is read of rows, and what names are called then."""

# Each name is called by how many names stand around it.
NAMES = (
    "va", "vb", "vc", "vd", "ve", "vf", "vg", "vh", "vi", "vj", "vk", "vl", "vm",
    "vn", "vo", "vp", "vq", "vr", "vs", "vt", "vu", "vv", "vw", "vx", "vy", "vz",
    "wa", "wb", "wc", "wd", "we", "wf", "wg", "wh", "wi", "wj", "wk", "wl", "wm",
    "wn", "wo", "wp", "wq", "wr", "ws", "wt", "wu", "wv", "ww", "wx", "wy", "wz",
)


class Opened:
    """What of a TERM, or of the whole, was read ahead of the part of it that's read now.

    This part ends with a row of the word until; where that's "", ahead of the row at.
    """

    def __init__(self, row, base, until):
        self.row = row
        # How many TERMs are whole of what's ahead of this part.
        self.base = base
        self.until = until
        self.at = 0
        # What's bound in this part.
        self.bound = ()
        # Of an answerer: (x, U) and the clauses, as far as they're read.
        self.parts = []


class RowReader:
    """TERMs that are whole, those that are opened, the innermost ones last, and what stands around."""

    def __init__(self):
        self.whole = []
        self.opened = [Opened(("whole",), 0, "end")]
        # By names, the innermost one last: "name" or "answerer".
        self.around = []

    def has(self, many):
        """Whether just so many TERMs are whole in the part that's read now."""
        return len(self.whole) == self.opened[-1].base + many

    def has_some(self, many):
        """Whether at least so many are."""
        return len(self.whole) >= self.opened[-1].base + many

    def means(self, k, sort):
        """Whether something of this sort is meant by a number."""
        return k < len(self.around) and self.around[-1 - k] == sort

    def called(self, k):
        """The name of what's meant by a number."""
        return NAMES[len(self.around) - 1 - k]

    def make(self, head, many):
        """A TERM is whole, the last so many ones being within it; True."""
        parts = self.whole[len(self.whole) - many:]
        del self.whole[len(self.whole) - many:]
        self.whole.append((*head, *parts))
        return True

    def begin(self, row, until, sorts):
        """Whether a TERM can be opened in a part of which these are bound; it is, then."""
        self.opened.append(Opened(row, len(self.whole), until))
        return self.binds(sorts)

    def go_on(self, until, sorts):
        """Whether the next part of the innermost TERM can be read, in which these are bound; it's next, then."""
        self.unbind()
        opened = self.opened[-1]
        opened.base = len(self.whole)
        opened.until = until
        return self.binds(sorts)

    def binds(self, sorts):
        """Whether there are names for these; they're bound, then."""
        first = len(self.around)
        self.around.extend(sorts)
        opened = self.opened[-1]
        opened.bound = NAMES[first:first + len(sorts)]
        return len(self.around) <= len(NAMES)

    def unbind(self):
        """What is bound in the part that's read now stands around no more."""
        del self.around[len(self.around) - len(self.opened[-1].bound):]

    def close(self, head, many):
        """The innermost TERM that's opened is whole, the last so many ones being within it; True."""
        self.unbind()
        self.opened.pop()
        return self.make(head, many)
