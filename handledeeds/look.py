"""A look at programs: their KINDs and ROSTERs, as open as can be."""

from handledeeds.looker import looked
from handledeeds.settler import Settler


def look(term, sheet, *, known=()):
    """The pair (KIND, ROSTER) of a term, settled; Clash where there is none."""
    looker = looked(term, sheet, known)
    settler = Settler(looker.found)
    top = looker.nodes[0]
    kind = settler.settled_kind(top.kind)
    return (kind, settler.settled_roster(top.roster))


def kind_of(term, sheet, *, known=()):
    """The KIND of a term, as look tells it."""
    return look(term, sheet, known=known)[0]
