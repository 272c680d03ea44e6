"""A look at programs: their KINDs and ROSTERs, as open as can be."""

from handledeeds.kindheads import built
from handledeeds.kinds import renamed
from handledeeds.kinds import renumbered
from handledeeds.looker import looked


def look(term, sheet, *, known=()):
    """The pair (KIND, ROSTER) of a term, settled; Clash where there is none."""
    looker = looked(term, sheet, known)
    top = looker.nodes[0]
    heads = looker.found.whole_heads([top.kind, top.roster])
    kinds, tails = renumbered(heads)
    told = renamed(heads, kinds, tails)
    return (built(told[:-1]), told[-1])


def kind_of(term, sheet, *, known=()):
    """The KIND of a term, as look tells it."""
    return look(term, sheet, known=known)[0]
