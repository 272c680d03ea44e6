"""Looks at programs by calls within calls, over cells that are filled in as more is found."""

from collections import Counter


class Cell:
    """What's open: a kind, or the tail of a roster, till it's filled."""

    def __init__(self):
        self.filled = None


class Bad(Exception):
    """Two kinds, or rosters, that can't be the same."""


class SlowClash(Exception):
    """args: PLACE, why."""


# A kind here is "number", ("pair", a, b), ("fun", a, roster, b) or a Cell; a roster is (Counter, Cell or None).


def seen(kind):
    while isinstance(kind, Cell) and kind.filled is not None:
        kind = kind.filled
    return kind


def seen_roster(roster):
    labels, tail = Counter(roster[0]), roster[1]
    while tail is not None and tail.filled is not None:
        labels += tail.filled[0]
        tail = tail.filled[1]
    return labels, tail


def cells(kind):
    """The list of all cells of a kind, tails too."""
    kind = seen(kind)
    if isinstance(kind, Cell):
        return [kind]
    if kind == "number":
        return []
    if kind[0] == "pair":
        return cells(kind[1]) + cells(kind[2])
    tail = seen_roster(kind[2])[1]
    return cells(kind[1]) + ([tail] if tail else []) + cells(kind[3])


def labels(kind):
    kind = seen(kind)
    if isinstance(kind, Cell) or kind == "number":
        return []
    if kind[0] == "pair":
        return labels(kind[1]) + labels(kind[2])
    return labels(kind[1]) + list(seen_roster(kind[2])[0]) + labels(kind[3])


def unify(left, right):
    left, right = seen(left), seen(right)
    if left is right:
        return
    if isinstance(left, Cell) or isinstance(right, Cell):
        cell, other = (left, right) if isinstance(left, Cell) else (right, left)
        if any(cell is one for one in cells(other)):
            raise Bad
        cell.filled = other
    elif left == "number" or right == "number" or left[0] != right[0]:
        if left != right:
            raise Bad
    elif left[0] == "pair":
        unify(left[1], right[1])
        unify(left[2], right[2])
    else:
        unify(left[1], right[1])
        unify_rosters(left[2], right[2])
        unify(left[3], right[3])


def unify_rosters(left, right):
    (ours, tail), (theirs, other) = seen_roster(left), seen_roster(right)
    if tail is other:
        if ours != theirs:
            raise Bad
        return
    rest = None if tail is None or other is None else Cell()
    for end, more in ((tail, theirs - ours), (other, ours - theirs)):
        if end is not None:
            end.filled = (more, rest)
        elif more:
            raise Bad


def copied(kind, fresh):
    """The kind with those cells that fresh has as keys exchanged."""
    kind = seen(kind)
    if isinstance(kind, Cell):
        return fresh.get(kind, kind)
    if kind == "number":
        return kind
    if kind[0] == "pair":
        return ("pair", copied(kind[1], fresh), copied(kind[2], fresh))
    many, tail = seen_roster(kind[2])
    return ("fun", copied(kind[1], fresh), (many, fresh.get(tail, tail)), copied(kind[3], fresh))


def celled(kind, known):
    """A KIND with cells for what's open; known is what was made so far."""
    if kind == "number":
        return kind
    if kind[0] == "any":
        return known.setdefault(("kind", kind[1]), Cell())
    if kind[0] == "pair":
        return ("pair", celled(kind[1], known), celled(kind[2], known))
    row, tail = kind[2]
    end = None if tail is None else known.setdefault(("tail", tail), Cell())
    return ("fun", celled(kind[1], known), (Counter(row), end), celled(kind[3], known))


class SlowLook:
    def __init__(self, term, sheet, known=()):
        self.sheet = {deed: (handed, answered) for deed, handed, answered in sheet}
        self.paper = {}
        names = {}
        for name, kind in known:
            made = celled(kind, {})
            names[name] = (made, cells(made))
        self.faults(term, (), set(names), {})
        self.kind(term, (), names, {}, (Counter(), Cell()))

    def faults(self, term, place, names, called):
        word = term[0]
        if word == "name" and term[1] not in names:
            raise SlowClash(place, "name")
        if word in ("ask", "past") and term[1] not in self.sheet:
            raise SlowClash(place, "deed")
        if word in ("askof", "pastof") and term[1] not in called:
            raise SlowClash(place, "answerer")
        if word == "askof" and term[2] not in called[term[1]]:
            raise SlowClash(place, "deed")
        if word in ("fun", "rec"):
            self.faults(term[-1], (*place, 0), names | set(term[1:-1]), called)
        elif word == "let":
            self.faults(term[2], (*place, 0), names, called)
            self.faults(term[3], (*place, 1), names | {term[1]}, called)
        elif word in ("handle", "under"):
            deeds = [clause[0] for clause in term[4]]
            if set(deeds) - set(self.sheet):
                raise SlowClash(place, "deed")
            self.faults(term[2], (*place, 0), names, {**called, term[1]: deeds} if word == "under" else called)
            self.faults(term[3][1], (*place, 1), names | {term[3][0]}, called)
            for at, clause in enumerate(term[4]):
                self.faults(clause[4], (*place, at + 2), names | set(clause[2:4]), called)
        else:
            for at, part in enumerate([thing for thing in term if isinstance(thing, tuple)]):
                self.faults(part, (*place, at), names, called)

    def kind(self, term, place, names, called, roster):
        kind = Cell()
        self.paper[place] = (kind, roster)
        try:
            getattr(self, "rule_" + term[0])(term, place, names, called, roster, kind)
        except Bad:
            raise SlowClash(place, "kinds") from None
        return kind

    def rule_num(self, term, place, names, called, roster, kind):
        unify(kind, "number")

    def rule_name(self, term, place, names, called, roster, kind):
        made, free = names[term[1]]
        unify(kind, copied(made, {cell: Cell() for cell in free}))

    def rule_fun(self, term, place, names, called, roster, kind):
        handed, told, own = Cell(), Cell(), (Counter(), Cell())
        unify(kind, ("fun", handed, own, told))
        within = {**names, term[-2]: (handed, [])}
        if term[0] == "rec":
            within[term[1]] = (kind, [])
        unify(told, self.kind(term[-1], (*place, 0), within, called, own))

    rule_rec = rule_fun

    def parts(self, term, place, names, called, roster):
        within = [thing for thing in term if isinstance(thing, tuple)]
        return [self.kind(part, (*place, at), names, called, roster) for at, part in enumerate(within)]

    def rule_call(self, term, place, names, called, roster, kind):
        made, handed = self.parts(term, place, names, called, roster)
        unify(made, ("fun", handed, roster, kind))

    def rule_let(self, term, place, names, called, roster, kind):
        _, x, made, body = term
        found = self.kind(made, (*place, 0), names, called, roster)
        free = []
        if made[0] in ("num", "name", "fun", "rec"):
            held = [seen_roster(roster)[1]]
            for other, others in names.values():
                held.extend([cell for cell in cells(other) if cell not in others])
            free = [cell for cell in cells(found) if cell not in held]
        unify(kind, self.kind(body, (*place, 1), {**names, x: (found, free)}, called, roster))

    def rule_op(self, term, place, names, called, roster, kind):
        for part in [*self.parts(term, place, names, called, roster), kind]:
            unify(part, "number")

    def rule_if(self, term, place, names, called, roster, kind):
        asked, chosen, other = self.parts(term, place, names, called, roster)
        unify(asked, "number")
        unify(chosen, other)
        unify(chosen, kind)

    def rule_two(self, term, place, names, called, roster, kind):
        unify(kind, ("pair", *self.parts(term, place, names, called, roster)))

    def rule_first(self, term, place, names, called, roster, kind):
        [pair] = self.parts(term, place, names, called, roster)
        unify(pair, ("pair", kind, Cell()) if term[0] == "first" else ("pair", Cell(), kind))

    rule_second = rule_first

    def asked(self, part, kind, deed, label, roster):
        unify(part, celled(self.sheet[deed][0], {}))
        unify(kind, celled(self.sheet[deed][1], {}))
        unify_rosters(roster, (Counter([label]), Cell()))

    def rule_ask(self, term, place, names, called, roster, kind):
        [part] = self.parts(term, place, names, called, roster)
        self.asked(part, kind, term[1], term[1], roster)

    def rule_askof(self, term, place, names, called, roster, kind):
        [part] = self.parts(term, place, names, called, roster)
        self.asked(part, kind, term[2], called[term[1]][term[2]], roster)

    def passed(self, term, place, names, called, roster, kind, more):
        own = (Counter(), Cell())
        part = self.kind(term[2], (*place, 0), names, called, own)
        unify(kind, part)
        unify_rosters(roster, (own[0] + Counter(more), own[1]))

    def rule_past(self, term, place, names, called, roster, kind):
        self.passed(term, place, names, called, roster, kind, [term[1]])

    def rule_pastof(self, term, place, names, called, roster, kind):
        self.passed(term, place, names, called, roster, kind, called[term[1]].values())

    def rule_handle(self, term, place, names, called, roster, kind):
        word, way, body, (x, then), clauses = term
        own = {clause[0]: clause[0] for clause in clauses}
        within = called
        if word == "under":
            own = {deed: ".".join(map(str, place)) + ":" + deed for deed in own}
            within = {**called, way: own}
        inside = (roster[0] + Counter(own.values()), roster[1])
        made = self.kind(body, (*place, 0), names, within, inside)
        told = [(kind, self.kind(then, (*place, 1), {**names, x: (made, [])}, called, roster))]
        for at, (deed, how, u, k, answer) in enumerate(clauses):
            handed, answered = [celled(one, {}) for one in self.sheet[deed]]
            around = {**names, u: (handed, [])}
            if how == "many":
                rest = (inside, made) if way == "shallow" else (roster, kind)
                around[k] = (("fun", answered, *rest), [])
            found = self.kind(answer, (*place, at + 2), around, called, roster)
            told.append((answered if how == "quick" else kind, found))
        for wanted, found in told:
            unify(wanted, found)
        if word == "under":
            standing = labels(kind) + list(seen_roster(roster)[0])
            for other, _ in names.values():
                standing.extend(labels(other))
            if set(standing) & set(own.values()):
                raise SlowClash(place, "out")

    rule_under = rule_handle

    def rule_ward(self, term, place, names, called, roster, kind):
        made = self.kind(term[1], (*place, 0), names, called, roster)
        cleaning = self.kind(term[2], (*place, 1), names, called, (Counter(), None))
        unify(kind, made)
        unify(cleaning, "number")

    def told(self):
        """The paper, numbered as it first stands."""
        kinds, tails = {}, {}

        def number(kind):
            kind = seen(kind)
            if isinstance(kind, Cell):
                return ("any", kinds.setdefault(kind, len(kinds)))
            if kind == "number":
                return kind
            if kind[0] == "pair":
                return ("pair", number(kind[1]), number(kind[2]))
            return ("fun", number(kind[1]), number_roster(kind[2]), number(kind[3]))

        def number_roster(roster):
            many, tail = seen_roster(roster)
            return (tuple(sorted(many.elements())), None if tail is None else tails.setdefault(tail, len(tails)))

        return [(place, number(kind), number_roster(roster)) for place, (kind, roster) in self.paper.items()]


def slow_paper(term, sheet, known=()):
    """("paper", the list of triples) or ("clash", PLACE, why)."""
    try:
        return ("paper", SlowLook(term, sheet, known).told())
    except SlowClash as clash:
        return ("clash", *clash.args)
