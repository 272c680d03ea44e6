"""Papers of kinds: of each PLACE of a term its KIND and its ROSTER."""

from handledeeds.kindheads import heads_of
from handledeeds.kinds import put_in
from handledeeds.kinds import put_in_roster
from handledeeds.kinds import renumbered
from handledeeds.looker import looked


def paper_of(term, sheet, *, known=()):
    """The list of triples (PLACE, KIND, ROSTER) of a term, as open as can be; Clash where there are none."""
    triples = looked(term, sheet, known).triples()
    heads = []
    for _, kind, roster in triples:
        heads.extend(heads_of(kind))
        heads.append(roster)
    kinds, tails = renumbered(heads)
    return [(place, put_in(kind, kinds, tails), put_in_roster(roster, kinds, tails)) for place, kind, roster in triples]
