"""A look at programs: their KINDs and ROSTERs, as open as can be."""

from handledeeds.kinds import settled
from handledeeds.looker import looked


def look(term, sheet, *, known=()):
    """The pair (KIND, ROSTER) of a term, settled; Clash where there is none."""
    _, kind, roster = looked(term, sheet, known).triples()[0]
    return settled(kind, roster)


def kind_of(term, sheet, *, known=()):
    """The KIND of a term, as look tells it."""
    return look(term, sheet, known=known)[0]
