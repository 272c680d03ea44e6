"""Whether a thing is a paper of a term's kinds."""

from handledeeds.errors import Unlike
from handledeeds.faults import first_fault
from handledeeds.kindforms import is_kind_within
from handledeeds.kindforms import is_roster_within
from handledeeds.kindheads import alike
from handledeeds.kindheads import heads_of
from handledeeds.kindheads import labels_in
from handledeeds.kindheads import opens_in
from handledeeds.kinds import finds
from handledeeds.kinds import opens_of
from handledeeds.labels import written_label
from handledeeds.rules import Node
from handledeeds.rules import keep_rule
from handledeeds.rules import known_around
from handledeeds.rules import let_out
from handledeeds.rules import walk
from handledeeds.terms import places_of


def label_of(place, deed):
    """The LABEL of a deed of an under at a PLACE."""
    return written_label(place, deed)


def shows_kinds(term, sheet, thing, *, known=()):
    """Whether a thing is a paper of a term's kinds, this or any other."""
    if not is_paper_form(thing, places_of(term)) or first_fault(term, sheet, known) is not None:
        return False
    checker = Checker(sheet, thing)
    try:
        walk(checker, checker.enter((), term, known_around(known), None))
    except Unlike:
        return False
    return True


def is_paper_form(thing, places):
    """Whether a thing is a list of one triple (PLACE, KIND, ROSTER) for each of these PLACEs, in their order."""
    if type(thing) is not list or len(thing) != len(places):
        return False
    return all([is_triple(triple, place) for triple, place in zip(thing, places)])


def is_triple(thing, place):
    """Whether a thing is a triple of this PLACE."""
    if type(thing) is not tuple or len(thing) != 3 or not is_kind_within(thing[1], None, None, None):
        return False
    # True is 1 to Python, but no number of a PLACE.
    if type(thing[0]) is not tuple or not all([type(step) is int for step in thing[0]]):
        return False
    return thing[0] == place and is_roster_within(thing[2], None)


class Checker:
    """A judge that tells whether the kinds of a paper are the same."""

    def __init__(self, sheet, paper):
        self.deed_kinds = {deed: (handed, answered) for deed, handed, answered in sheet}
        self.paper = {place: (kind, roster) for place, kind, roster in paper}

    def enter(self, place, form, around, roster):
        """The Node of a PLACE by the paper, its ROSTER this one, or any where that's None; Unlike."""
        kind, shown_roster = self.paper[place]
        if roster is not None:
            self.same_roster(shown_roster, roster)
        # What's within a fun or a rec is asked for as its parts are entered, ahead of its rule.
        if (form[0] == "fun" or form[0] == "rec") and kind[0] != "fun":
            raise Unlike()
        return Node(place, form, around, kind, shown_roster)

    def leave(self, node):
        """Tell whether the rule of a node is kept; Unlike."""
        keep_rule(self, node)
        if let_out(self, node):
            raise Unlike()

    def same(self, kind, other):
        if not alike(kind, other):
            raise Unlike()

    def same_roster(self, roster, other):
        if roster != other:
            raise Unlike()

    def has_side(self, kind, side, part):
        """A kind is a pair, of which this side is a part."""
        if kind[0] != "pair":
            raise Unlike()
        self.same(kind[1] if side == "first" else kind[2], part)

    def has_label(self, roster, label):
        """A roster has a label."""
        if label not in roster[0]:
            raise Unlike()

    def uses(self, kind, meaning):
        """A kind is that of a name, with something put in for what may be something else."""
        named, free_kinds, free_tails = meaning
        kinds, tails = opens_of(named)
        # All else that's open stays as it is.
        put_kinds = {n: ("any", n) for n in kinds if n not in free_kinds}
        put_tails = {n: ((), n) for n in tails if n not in free_tails}
        if not finds(named, kind, put_kinds, put_tails):
            raise Unlike()

    def told(self, kind):
        return kind

    def opens(self, kind, roster):
        return opens_in(heads_of(kind) + [roster])

    def labels(self, kind, roster):
        """The list of all LABELs that stand in both."""
        return labels_in(heads_of(kind) + [roster])
