"""Finding the kinds of a term, as open as can be."""

from handledeeds.errors import Clash
from handledeeds.errors import Unlike
from handledeeds.faults import NEEDY
from handledeeds.faults import fault
from handledeeds.faults import first_fault
from handledeeds.finder import Finder
from handledeeds.kindheads import labels_in
from handledeeds.kindheads import opens_in
from handledeeds.kinds import opens_of
from handledeeds.kinds import put_in
from handledeeds.rules import RULES
from handledeeds.rules import Node
from handledeeds.rules import known_around
from handledeeds.rules import let_out
from handledeeds.rules import walk
from handledeeds.rules import with_more


def looked(term, sheet, known):
    """The Looker that has found the kinds of a term; Clash where there are none."""
    looker = Looker(sheet)
    around = known_around(looker.own(known)) if known else {}
    try:
        walk(looker, term, around)
    except Clash as clash:
        # What isn't there is told first, also where it's behind the PLACE at which the look ended.
        wrong = first_fault(term, sheet, known) if clash.why in ("kinds", "out") else None
        if wrong is None:
            raise
        raise Clash(wrong[0], wrong[1]) from None
    return looker


class Looker:
    """A judge that finds what makes kinds the same."""

    def __init__(self, sheet):
        self.deed_kinds = {deed: (handed, answered) for deed, handed, answered in sheet}
        self.found = Finder()
        # In the order of places_of, as each is entered ahead of those within it.
        self.nodes = []

    def own(self, known):
        """Known names with opens of the look's own, which has made none of those handed in."""
        told = []
        for name, kind in known:
            kinds, tails = opens_of(kind)
            told.append((name, self.renewed(kind, kinds, tails)))
        return told

    def enter(self, place, form, around, roster):
        """The Node of a PLACE, its ROSTER a new one where it's None; Clash where something isn't there."""
        word = form[0]
        kind = None
        if word == "name":
            if form[1] not in around:
                raise Clash(place, "name")
            # Something new for all that may be something else.
            meaning = around[form[1]]
            kind = self.renewed(*meaning)
        elif word == "num":
            kind = "number"
        elif word == "fun" or word == "rec":
            kind = ("fun", self.found.make_kind(), self.found.make_tail(), self.found.make_kind())
        elif word in NEEDY:
            why = fault(form, self.deed_kinds, around)
            if why != "":
                raise Clash(place, why)
            if word == "handle" or word == "under":
                kind = self.found.make_kind()
        if roster is None:
            roster = self.found.make_tail()
        node = Node(place, form, around, kind, roster)
        self.nodes.append(node)
        return node

    def leave(self, node):
        """Keep the rule of a node; Clash where it can't be kept with those of all that's left so far."""
        rule = RULES[node.word]
        try:
            rule(self, node)
        except Unlike:
            raise Clash(node.place, "kinds") from None
        if node.word == "under" and let_out(self, node):
            raise Clash(node.place, "out")

    def same(self, kind, other):
        self.found.unite(kind, other)

    def same_roster(self, roster, other):
        self.found.unite_rosters(roster, other)

    def settle(self, node, kind):
        """The KIND of a node, of which none was told yet, is this one."""
        node.kind = kind

    def wanted(self, node):
        """The KIND of a node, still open where it wasn't told yet."""
        if node.kind is None:
            node.kind = self.found.make_kind()
        return node.kind

    def settle_side(self, node, kind, side):
        """The KIND of a node is this side of a kind, which is a pair."""
        part = self.wanted(node)
        other = self.found.make_kind()
        self.found.unite(kind, ("pair", part, other) if side == "first" else ("pair", other, part))

    def has_label(self, roster, label):
        """A roster has a label."""
        if label not in roster[0]:
            self.found.unite_rosters(roster, with_more(self.found.make_tail(), (label,)))

    def renewed(self, kind, kinds, tails):
        """The kind with new opens for these."""
        if not kinds and not tails:
            return kind
        new_kinds = {n: self.found.make_kind() for n in kinds}
        new_tails = {n: self.found.make_tail() for n in tails}
        return put_in(kind, new_kinds, new_tails)

    def told(self, kind):
        return self.found.whole_kind(kind)

    def opens(self, parts):
        """opens_of of KINDs and ROSTERs, one behind the other, as they're told."""
        return opens_in(self.found.first_heads(parts))

    def labels(self, parts):
        """The list of all LABELs that stand in these."""
        return labels_in(self.found.first_heads(parts))
