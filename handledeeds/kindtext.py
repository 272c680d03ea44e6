"""The texts of KINDs and ROSTERs: told, and of KINDs read."""

from handledeeds.errors import BadText
from handledeeds.kindheads import built
from handledeeds.kindheads import heads_of
from handledeeds.kindheads import is_open
from handledeeds.kindheads import is_roster_head
from handledeeds.kinds import is_kind
from handledeeds.labels import is_label
from handledeeds.limits import TOP_OPEN
from handledeeds.words import is_figures


def kind_text(kind):
    """The text of a kind."""
    words = []
    for head in heads_of(kind):
        if is_open(head):
            words.append(f"a{head[1]}")
        elif is_roster_head(head):
            words.append(roster_text(head))
        else:
            words.append(head)
    return " ".join(words)


def roster_text(roster):
    """The text of a roster."""
    labels, tail = roster
    rest = [] if tail is None else [f"r{tail}"]
    return " ".join(["[", *labels, *rest, "]"])


def kind_in(text):
    """The KIND whose text this is; BadText where there is none."""
    words = text.split(" ")
    reader = KindReader()
    for at, word in enumerate(words):
        if not reader.takes(word):
            raise BadText(at)
    if reader.wants:
        raise BadText(len(words))
    kind = built(reader.heads)
    if not is_kind(kind):
        raise BadText(len(words))
    return kind


def open_number(word, sign):
    """The number of what's open by a word such as a0, r0; None where it's no such word."""
    if not word.startswith(sign) or not is_figures(word[1:], TOP_OPEN):
        return None
    return int(word[1:])


class KindReader:
    """What is read of a text: heads, and what is wanted next, the last one first."""

    def __init__(self):
        self.heads = []
        self.wants = ["kind"]
        self.row = ()
        self.tail = None

    def takes(self, word):
        """Whether some text goes on with this word behind what's read; it's read then."""
        if not self.wants:
            return False
        if self.wants[-1] == "kind":
            return self.takes_kind(word)
        if self.wants[-1] == "roster":
            return self.takes_roster(word)
        return self.takes_within(word)

    def takes_kind(self, word):
        """Likewise where a KIND is wanted."""
        number = open_number(word, "a")
        if word not in ("number", "pair", "fun") and number is None:
            return False
        self.wants.pop()
        if word == "pair":
            self.wants.extend(["kind", "kind"])
        elif word == "fun":
            self.wants.extend(["kind", "roster", "kind"])
        self.heads.append(word if number is None else ("any", number))
        return True

    def takes_roster(self, word):
        """Likewise where a ROSTER is wanted."""
        if word != "[":
            return False
        self.wants[-1] = "labels"
        self.row = ()
        self.tail = None
        return True

    def takes_within(self, word):
        """Likewise within a ROSTER."""
        if word == "]":
            self.wants.pop()
            self.heads.append((self.row, self.tail))
            return True
        # Behind its tail a ROSTER has nothing but its end.
        if self.tail is not None:
            return False
        self.tail = open_number(word, "r")
        if self.tail is not None:
            return True
        if not is_label(word) or word < max(self.row, default=""):
            return False
        self.row = (*self.row, word)
        return True
