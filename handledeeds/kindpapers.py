"""Papers of kinds: of each PLACE of a term its KIND and its ROSTER."""

from handledeeds.looker import looked
from handledeeds.settler import Settler


def paper_of(term, sheet, *, known=()):
    """The list of triples (PLACE, KIND, ROSTER) of a term, as open as can be; Clash where there are none."""
    looker = looked(term, sheet, known)
    settler = Settler(looker.found)
    paper = []
    for node in looker.nodes:
        kind = settler.settled_kind(node.kind)
        paper.append((node.place, kind, settler.settled_roster(node.roster)))
    return paper
