"""Whether a thing is a paper of a term's kinds."""

from handledeeds.errors import Unlike
from handledeeds.faults import NEEDY
from handledeeds.faults import fault
from handledeeds.kindforms import are_labels
from handledeeds.kindforms import is_kind_shape
from handledeeds.kindforms import is_roster_shape
from handledeeds.kindheads import alike
from handledeeds.kindheads import heads_of
from handledeeds.kindheads import labels_in
from handledeeds.kindheads import opens_in
from handledeeds.kinds import finds
from handledeeds.kinds import opens_of
from handledeeds.labels import written_label
from handledeeds.limits import NOT_DEEP
from handledeeds.rules import RULES
from handledeeds.rules import Node
from handledeeds.rules import known_around
from handledeeds.rules import let_out
from handledeeds.rules import walk


def label_of(place, deed):
    """The LABEL of a deed of an under at a PLACE."""
    return written_label(place, deed)


def shows_kinds(term, sheet, thing, *, known=()):
    """Whether a thing is a paper of a term's kinds, this or any other."""
    if type(thing) is not list or not are_triples(thing):
        return False
    checker = Checker(sheet, thing)
    try:
        walk(checker, term, known_around(known))
    except Unlike:
        return False
    return checker.entered == len(thing)


def are_triples(things):
    """Whether these are triples, each of a tuple of numbers, of anything, and of what's shaped as a ROSTER is."""
    for triple in things:
        if type(triple) is not tuple or len(triple) != 3 or type(triple[0]) is not tuple:
            return False
        roster = triple[2]
        if type(roster) is not tuple or len(roster) != 2 or type(roster[0]) is not tuple:
            return False
        if roster[1] is not None and (type(roster[1]) is not int or roster[1] < 0):
            return False
    if [step for place, _, _ in things for step in place if type(step) is not int]:
        return False
    return not [label for _, _, (row, _) in things for label in row if type(label) is not str]


class Checker:
    """A judge that tells whether the kinds of a paper are the same."""

    def __init__(self, sheet, paper):
        self.deed_kinds = {deed: (handed, answered) for deed, handed, answered in sheet}
        self.paper = paper
        # PLACEs are entered in the order of the paper.
        self.entered = 0
        self.largest = 0
        # Rows of labels that were seen to be such.
        self.rows = {(): True}

    def enter(self, place, form, around, roster):
        """The Node of a PLACE by the paper, its ROSTER this one, or any where that's None; Unlike."""
        word = form[0]
        if self.entered == len(self.paper) or word in NEEDY and fault(form, self.deed_kinds, around) != "":
            raise Unlike()
        shown_place, kind, shown_roster = self.paper[self.entered]
        self.entered += 1
        if shown_place != place or roster is not None and shown_roster != roster:
            raise Unlike()
        if roster is None:
            self.check_row(shown_roster[0])
        if type(kind) is not str or kind != "number":
            self.check_kind(kind)
        # What's within a fun or a rec is asked for as its parts are entered, ahead of its rule.
        if (word == "fun" or word == "rec") and kind[0] != "fun" or word == "num" and kind != "number":
            raise Unlike()
        if word == "name":
            meaning = around[form[1]]
            self.check_use(kind, *meaning)
        return Node(place, form, around, kind, shown_roster)

    def check_kind(self, thing):
        """A thing is a KIND, of whatever size; Unlike."""
        waiting = [thing]
        parts = 0
        while waiting:
            part = waiting.pop()
            parts += 1
            if type(part) is str and part == "number":
                continue
            if not is_kind_shape(part):
                raise Unlike()
            if part[0] == "pair":
                waiting.extend(part[1:])
            elif part[0] == "fun":
                if not is_roster_shape(part[2]):
                    raise Unlike()
                self.check_row(part[2][0])
                waiting.append(part[1])
                waiting.append(part[3])
        if parts > self.largest:
            self.largest = parts

    def check_row(self, row):
        """A row of texts, however many, is one of labels that don't fall; Unlike."""
        if row not in self.rows:
            if not are_labels(row):
                raise Unlike()
            self.rows[row] = True

    def leave(self, node):
        """Tell whether the rule of a node is kept; Unlike."""
        rule = RULES[node.word]
        rule(self, node)
        if node.word == "under" and let_out(self, node):
            raise Unlike()

    def same(self, kind, other):
        # Python compares tuples by calls within calls.
        so = kind == other if self.largest < NOT_DEEP else alike(kind, other)
        if not so:
            raise Unlike()

    def same_roster(self, roster, other):
        if roster != other:
            raise Unlike()

    def settle(self, node, kind):
        """The KIND of a node is this one."""
        self.same(node.kind, kind)

    def wanted(self, node):
        """The KIND of a node."""
        return node.kind

    def settle_side(self, node, kind, side):
        """The KIND of a node is this side of a kind, which is a pair."""
        if kind[0] != "pair":
            raise Unlike()
        self.same(node.kind, kind[1] if side == "first" else kind[2])

    def check_use(self, kind, named, free_kinds, free_tails):
        """A kind is that of a name, with something put in for what may be something else; Unlike."""
        if not free_kinds and not free_tails:
            self.same(kind, named)
            return
        kinds, tails = opens_of(named)
        # All else that's open stays as it is.
        put_kinds = {n: ("any", n) for n in kinds if n not in free_kinds}
        put_tails = {n: ((), n) for n in tails if n not in free_tails}
        if not finds(named, kind, put_kinds, put_tails):
            raise Unlike()

    def has_label(self, roster, label):
        """A roster has a label."""
        if label not in roster[0]:
            raise Unlike()

    def told(self, kind):
        return kind

    def opens(self, parts):
        """opens_of of KINDs and ROSTERs, one behind the other."""
        return opens_in(heads_in(parts))

    def labels(self, parts):
        """The list of all LABELs that stand in these."""
        return labels_in(heads_in(parts))


def heads_in(parts):
    """The row of the heads of KINDs and ROSTERs, one behind the other."""
    heads = []
    for part in parts:
        heads.extend([part] if type(part[0]) is tuple else heads_of(part))
    return heads
