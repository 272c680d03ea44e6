"""Finding the kinds of a term, as open as can be."""

from handledeeds.errors import Clash
from handledeeds.errors import Unlike
from handledeeds.faults import first_fault
from handledeeds.kindheads import heads_of
from handledeeds.kindheads import labels_in
from handledeeds.kinds import opens_of
from handledeeds.kinds import put_in
from handledeeds.rules import Node
from handledeeds.rules import keep_rule
from handledeeds.rules import known_around
from handledeeds.rules import let_out
from handledeeds.rules import walk
from handledeeds.rules import with_more
from handledeeds.solver import Solver


def looked(term, sheet, known):
    """The Looker that has found the kinds of a term; Clash where there are none."""
    wrong = first_fault(term, sheet, known)
    if wrong is not None:
        raise Clash(wrong[0], wrong[1])
    looker = Looker(sheet)
    walk(looker, looker.enter((), term, known_around(looker.own(known)), None))
    return looker


class Looker:
    """A judge that finds what makes kinds the same."""

    def __init__(self, sheet):
        self.deed_kinds = {deed: (handed, answered) for deed, handed, answered in sheet}
        self.solver = Solver()
        # In the order of places_of, as each is entered ahead of those within it.
        self.nodes = []

    def own(self, known):
        """Known names with opens of the solver's own, which has made none of those handed in."""
        told = []
        for name, kind in known:
            kinds, tails = opens_of(kind)
            told.append((name, self.renewed(kind, kinds, tails)))
        return told

    def enter(self, place, form, around, roster):
        """The Node of a PLACE, its KIND still open, its ROSTER a new one where it's None."""
        kind = self.solver.new_kind()
        if form[0] == "fun" or form[0] == "rec":
            kind = ("fun", kind, self.solver.new_tail(), self.solver.new_kind())
        if roster is None:
            roster = self.solver.new_tail()
        node = Node(place, form, around, kind, roster)
        self.nodes.append(node)
        return node

    def leave(self, node):
        """Keep the rule of a node; Clash where it can't be kept with those of all that's left so far."""
        try:
            keep_rule(self, node)
        except Unlike:
            raise Clash(node.place, "kinds") from None
        if let_out(self, node):
            raise Clash(node.place, "out")

    def triples(self):
        """The list of the triples (PLACE, KIND, ROSTER) of all PLACEs, as far as is found."""
        return [(node.place, self.told(node.kind), self.solver.told_roster(node.roster)) for node in self.nodes]

    def same(self, kind, other):
        self.solver.same(kind, other)

    def same_roster(self, roster, other):
        self.solver.same_roster(roster, other)

    def has_side(self, kind, side, part):
        """A kind is a pair, of which this side is a part."""
        other = self.solver.new_kind()
        self.solver.same(kind, ("pair", part, other) if side == "first" else ("pair", other, part))

    def has_label(self, roster, label):
        """A roster has a label."""
        self.solver.same_roster(roster, with_more(self.solver.new_tail(), (label,)))

    def uses(self, kind, meaning):
        """A kind is that of a name, with something new for all that may be something else."""
        self.solver.same(kind, self.renewed(*meaning))

    def renewed(self, kind, kinds, tails):
        """The kind with new opens for these."""
        new_kinds = {n: self.solver.new_kind() for n in kinds}
        new_tails = {n: self.solver.new_tail() for n in tails}
        return put_in(kind, new_kinds, new_tails)

    def told(self, kind):
        return self.solver.told(kind)

    def opens(self, kind, roster):
        return self.solver.opens(kind, roster)

    def labels(self, kind, roster):
        """The list of all LABELs that stand in both."""
        return labels_in(heads_of(self.told(kind)) + [self.solver.told_roster(roster)])
