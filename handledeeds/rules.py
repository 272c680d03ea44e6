"""The rules of kinds, PLACE by PLACE.

Of whom it's asked whether two kinds are the same is a judge: one that looks for kinds finds what makes
them so, one that's shown kinds tells whether they are. A judge refuses with Unlike. What stands
around is a dict by the keys of bindings: of a name the triple (KIND, numbers of open kinds, of open
tails that may be something else at each use), of an answerer its LABELs by deeds.
"""

from handledeeds.kinds import opens_of
from handledeeds.labels import joined
from handledeeds.labels import written_label
from handledeeds.shapes import called_key
from handledeeds.shapes import clause_deeds
from handledeeds.shapes import inner
from handledeeds.shapes import is_called_key

# These have no parts. A judge keeps their rules as it enters them.
LEAVES = {
    "num": True,
    "name": True,
}

# Around all parts of these stands what stands around the whole, and they have its ROSTER.
PLAIN = {
    "call": True,
    "op": True,
    "if": True,
    "two": True,
    "first": True,
    "second": True,
    "ask": True,
    "askof": True,
}


class Node:
    """A PLACE of a term, with its KIND, its ROSTER, and the Nodes of the parts come to so far.

    The KIND is None where it's known no sooner than the rule of the PLACE is kept.
    """

    def __init__(self, place, form, around, kind, roster):
        self.place = place
        self.form = form
        self.word = form[0]
        self.around = around
        self.kind = kind
        self.roster = roster
        self.within = []


def walk(judge, term, around):
    """Have the judge enter each PLACE of a term ahead of those within it, and leave it behind them."""
    path = [(judge.enter((), term, around, None), inner(term))]
    while path:
        node, parts = path[-1]
        around, roster = node.around, node.roster
        plain = node.word in PLAIN
        at = len(node.within)
        many = len(parts)
        while at < many:
            form = parts[at]
            if not plain:
                around, roster = part_setting(judge, node, at)
            part = judge.enter(node.place + (at,), form, around, roster)
            node.within.append(part)
            at += 1
            if form[0] not in LEAVES:
                path.append((part, inner(form)))
                break
        else:
            path.pop()
            if node.word not in LEAVES:
                judge.leave(node)


def known_around(known):
    """What stands around a whole term: names of which all that's open may be something else."""
    return {name: (kind, *opens_of(kind)) for name, kind in known}


def part_setting(judge, node, at):
    """What stands around a part of a node, the parts ahead of it being left, and its ROSTER, None where that's new."""
    word, form, around = node.word, node.form, node.around
    if word == "let":
        return ({**around, form[1]: let_meaning(judge, node)} if at == 1 else around, node.roster)
    if word == "fun":
        return ({**around, form[1]: fixed(node.kind[1])}, node.kind[2])
    if word == "rec":
        return ({**around, form[1]: fixed(node.kind), form[2]: fixed(node.kind[1])}, node.kind[2])
    if word == "past" or word == "pastof":
        return (around, None)
    if word == "ward":
        return (around, node.roster if at == 0 else ((), None))
    if at > 0:
        return (answer_around(judge, node, at), node.roster)
    if word == "under":
        around = {**around, called_key(form[1]): dict(zip(clause_deeds(form), clause_labels(node)))}
    return (around, with_more(node.roster, clause_labels(node)))


def answer_around(judge, node, at):
    """What stands around U, or V of a clause, of a node, an answerer."""
    if at == 1:
        return {**node.around, node.form[3][0]: fixed(node.within[0].kind)}
    deed, how, x, k, _ = node.form[4][at - 2]
    handed, answered = judge.deed_kinds[deed]
    if how != "many":
        return {**node.around, x: fixed(handed)}
    told_by = node.within[0] if node.form[1] == "shallow" else node
    return {**node.around, x: fixed(handed), k: fixed(("fun", answered, told_by.roster, told_by.kind))}


def fixed(kind):
    """What a name of a KIND stands for, of which nothing may be something else."""
    return (kind, (), ())


def let_meaning(judge, node):
    """What the name of a let stands for."""
    made = node.within[0]
    if made.word not in ("name", "fun", "rec"):
        return fixed(made.kind)
    kind = judge.told(made.kind)
    kinds, tails = opens_of(kind)
    if not kinds and not tails:
        return fixed(kind)
    held_kinds, held_tails = held(judge, node)
    return (kind, [n for n in kinds if n not in held_kinds], [n for n in tails if n not in held_tails])


def held(judge, node):
    """The pair of dicts of what's open in the ROSTER of a node and around it, and can't be something else."""
    kinds, tails = judge.opens([node.roster])
    kinds = {n: True for n in kinds}
    tails = {n: True for n in tails}
    for key, meaning in node.around.items():
        if not is_called_key(key) and meaning[0] != "number":
            open_kinds, open_tails = judge.opens([meaning[0]])
            kinds.update({n: True for n in open_kinds if n not in meaning[1]})
            tails.update({n: True for n in open_tails if n not in meaning[2]})
    return (kinds, tails)


def with_more(roster, labels):
    """The ROSTER with these labels more."""
    return (joined(roster[0], labels), roster[1])


def clause_labels(node):
    """The LABELs that T of an answerer may ask for more."""
    deeds = tuple(clause_deeds(node.form))
    if node.word == "handle":
        return deeds
    return tuple([written_label(node.place, deed) for deed in deeds])


# The rules of a PLACE itself, its parts being left: what's asked of the judge, in this order. A judge
# keeps that of RULES, by the word of the node, as it leaves it, and asks of an under whether it's let_out.


def fun_rule(judge, node):
    judge.same(node.kind[3], node.within[0].kind)


def call_rule(judge, node):
    called, handed = node.within
    judge.same(called.kind, ("fun", handed.kind, node.roster, judge.wanted(node)))


def let_rule(judge, node):
    judge.settle(node, node.within[1].kind)


def op_rule(judge, node):
    for part in node.within:
        judge.same(part.kind, "number")
    judge.settle(node, "number")


def if_rule(judge, node):
    asked_part, chosen, other = node.within
    judge.same(asked_part.kind, "number")
    judge.settle(node, chosen.kind)
    judge.same(node.kind, other.kind)


def two_rule(judge, node):
    first, second = node.within
    judge.settle(node, ("pair", first.kind, second.kind))


def side_rule(judge, node):
    judge.settle_side(node, node.within[0].kind, node.form[0])


def ask_rule(judge, node):
    asked(judge, node, node.form[1], node.form[1])


def askof_rule(judge, node):
    _, called, deed, _ = node.form
    asked(judge, node, deed, node.around[called_key(called)][deed])


def asked(judge, node, deed, label):
    """The rule of a deed that's asked, as this LABEL."""
    handed, answered = judge.deed_kinds[deed]
    judge.same(node.within[0].kind, handed)
    judge.settle(node, answered)
    judge.has_label(node.roster, label)


def past_rule(judge, node):
    passed(judge, node, (node.form[1],))


def pastof_rule(judge, node):
    labels = node.around[called_key(node.form[1])]
    passed(judge, node, tuple(list(labels.values())))


def passed(judge, node, labels):
    """The rule of a term whose asks of these LABELs pass an answerer."""
    part = node.within[0]
    judge.settle(node, part.kind)
    judge.same_roster(node.roster, with_more(part.roster, labels))


def answerer_rule(judge, node):
    judge.same(node.kind, node.within[1].kind)
    for clause, part in zip(node.form[4], node.within[2:]):
        judge.same(part.kind, judge.deed_kinds[clause[0]][1] if clause[1] == "quick" else node.kind)


def ward_rule(judge, node):
    guarded, cleaning = node.within
    judge.settle(node, guarded.kind)
    judge.same(cleaning.kind, "number")


RULES = {
    "fun": fun_rule,
    "rec": fun_rule,
    "call": call_rule,
    "let": let_rule,
    "op": op_rule,
    "if": if_rule,
    "two": two_rule,
    "first": side_rule,
    "second": side_rule,
    "ask": ask_rule,
    "askof": askof_rule,
    "past": past_rule,
    "pastof": pastof_rule,
    "handle": answerer_rule,
    "under": answerer_rule,
    "ward": ward_rule,
}


def let_out(judge, node):
    """Whether LABELs of an under stand where they mayn't: around it, in its KIND or in its ROSTER."""
    labels = judge.labels([node.kind, node.roster])
    for key, meaning in node.around.items():
        if not is_called_key(key):
            labels.extend(judge.labels([meaning[0]]))
    return any([label in labels for label in clause_labels(node)])
