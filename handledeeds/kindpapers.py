"""Papers of kinds: of each PLACE of a term its KIND and its ROSTER."""

from handledeeds.kindheads import built
from handledeeds.kinds import renamed
from handledeeds.kinds import renumbered
from handledeeds.looker import looked


def paper_of(term, sheet, *, known=()):
    """The list of triples (PLACE, KIND, ROSTER) of a term, as open as can be; Clash where there are none."""
    looker = looked(term, sheet, known)
    rows = [looker.found.whole_heads([node.kind, node.roster]) for node in looker.nodes]
    heads = []
    for row in rows:
        heads.extend(row)
    kinds, tails = renumbered(heads)
    told = [renamed(row, kinds, tails) for row in rows]
    return [(node.place, built(row[:-1]), row[-1]) for node, row in zip(looker.nodes, told)]
