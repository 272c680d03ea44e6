"""Checks papers of kinds by calls within calls, rule by rule of [9], each PLACE by itself."""

from collections import Counter


class No(Exception):
    """It's no paper."""


def need(so):
    if not so:
        raise No


def kind_ok(thing):
    if thing == "number" and isinstance(thing, str):
        return True
    if not isinstance(thing, tuple) or not thing or not isinstance(thing[0], str):
        return False
    if thing[0] == "any":
        return len(thing) == 2 and type(thing[1]) is int and thing[1] >= 0
    if thing[0] == "pair":
        return len(thing) == 3 and kind_ok(thing[1]) and kind_ok(thing[2])
    return thing[0] == "fun" and len(thing) == 4 and kind_ok(thing[1]) and roster_ok(thing[2]) and kind_ok(thing[3])


def label_ok(thing):
    if not isinstance(thing, str):
        return False
    place, colon, deed = thing.rpartition(":")
    words = place.split(".") if place else []
    return deed.isalpha() and deed.islower() and len(deed) < 7 and all(str(int(word)) == word for word in words)


def roster_ok(thing):
    if not isinstance(thing, tuple) or len(thing) != 2 or not isinstance(thing[0], tuple):
        return False
    if not all(label_ok(label) for label in thing[0]) or list(thing[0]) != sorted(thing[0]):
        return False
    return thing[1] is None or type(thing[1]) is int and thing[1] >= 0


def opens(thing):
    """All that's open in a kind or a roster, in any order."""
    if thing == "number":
        return set()
    if isinstance(thing[0], tuple):
        return set() if thing[1] is None else {("tail", thing[1])}
    if thing[0] == "any":
        return {("kind", thing[1])}
    return set().union(*[opens(part) for part in thing[1:]])


def labels(thing):
    if thing == "number" or thing[0] == "any":
        return []
    if isinstance(thing[0], tuple):
        return list(thing[0])
    return [label for part in thing[1:] for label in labels(part)]


def matches(kind, other, free, found):
    """Whether a kind is another one with something put in for what's free."""
    if kind == "number":
        return other == "number"
    if isinstance(kind[0], tuple):
        more = Counter(other[0])
        more.subtract(kind[0])
        if min(more.values(), default=0) < 0:
            return False
        rest = (tuple(sorted(more.elements())), other[1])
        if ("tail", kind[1]) in free:
            return found.setdefault(("tail", kind[1]), rest) == rest
        return rest == ((), kind[1])
    if kind[0] == "any":
        if ("kind", kind[1]) in free:
            return found.setdefault(("kind", kind[1]), other) == other
        return kind == other
    if other == "number" or kind[0] != other[0]:
        return False
    return all(matches(part, like, free, found) for part, like in zip(kind[1:], other[1:]))


class SlowCheck:
    def __init__(self, term, sheet, thing, known):
        need(isinstance(thing, list))
        for triple in thing:
            need(isinstance(triple, tuple) and len(triple) == 3 and isinstance(triple[0], tuple))
            need(all(type(step) is int for step in triple[0]))
            need(kind_ok(triple[1]) and roster_ok(triple[2]))
        self.sheet = {deed: (handed, answered) for deed, handed, answered in sheet}
        self.paper = {place: (kind, roster) for place, kind, roster in thing}
        self.order = []
        self.check(term, (), {name: (kind, opens(kind)) for name, kind in known}, {})
        need(self.order == [place for place, _, _ in thing])

    def at(self, place):
        need(place in self.paper)
        return self.paper[place]

    def check(self, term, place, names, called):
        kind, roster = self.at(place)
        self.order.append(place)
        rule = getattr(self, "check_" + term[0])
        rule(term, place, names, called, kind, roster)

    def part(self, term, at, place, names, called, roster):
        """The kind of a part, which has this roster."""
        kind, own = self.at((*place, at))
        need(own == roster)
        self.check(term, (*place, at), names, called)
        return kind

    def check_num(self, term, place, names, called, kind, roster):
        need(kind == "number")

    def check_name(self, term, place, names, called, kind, roster):
        need(term[1] in names)
        made, free = names[term[1]]
        need(matches(made, kind, free, {}))

    def check_fun(self, term, place, names, called, kind, roster):
        need(kind[0] == "fun")
        within = {**names, term[-2]: (kind[1], set())}
        if term[0] == "rec":
            within[term[1]] = (kind, set())
        need(self.part(term[-1], 0, place, within, called, kind[2]) == kind[3])

    check_rec = check_fun

    def parts(self, term, place, names, called, roster):
        within = [thing for thing in term if isinstance(thing, tuple)]
        return [self.part(part, at, place, names, called, roster) for at, part in enumerate(within)]

    def check_call(self, term, place, names, called, kind, roster):
        made, handed = self.parts(term, place, names, called, roster)
        need(made == ("fun", handed, roster, kind))

    def check_let(self, term, place, names, called, kind, roster):
        made = self.part(term[2], 0, place, names, called, roster)
        free = set()
        if term[2][0] in ("num", "name", "fun", "rec"):
            free = opens(made) - opens(roster)
            for other, others in names.values():
                free -= opens(other) - others
        need(self.part(term[3], 1, place, {**names, term[1]: (made, free)}, called, roster) == kind)

    def check_op(self, term, place, names, called, kind, roster):
        need([kind, *self.parts(term, place, names, called, roster)] == ["number"] * 3)

    def check_if(self, term, place, names, called, kind, roster):
        need(self.parts(term, place, names, called, roster) == ["number", kind, kind])

    def check_two(self, term, place, names, called, kind, roster):
        need(kind == ("pair", *self.parts(term, place, names, called, roster)))

    def check_first(self, term, place, names, called, kind, roster):
        [pair] = self.parts(term, place, names, called, roster)
        need(pair[0] == "pair" and pair[1 if term[0] == "first" else 2] == kind)

    check_second = check_first

    def check_ask(self, term, place, names, called, kind, roster):
        need(term[1] in self.sheet and term[1] in roster[0])
        need((*self.parts(term, place, names, called, roster), kind) == self.sheet[term[1]])

    def check_askof(self, term, place, names, called, kind, roster):
        need(term[1] in called and term[2] in called[term[1]] and called[term[1]][term[2]] in roster[0])
        need((*self.parts(term, place, names, called, roster), kind) == self.sheet[term[2]])

    def passed(self, term, place, names, called, kind, roster, more):
        own = self.at((*place, 0))[1]
        need(roster == (tuple(sorted([*own[0], *more])), own[1]))
        need(self.part(term[2], 0, place, names, called, own) == kind)

    def check_past(self, term, place, names, called, kind, roster):
        need(term[1] in self.sheet)
        self.passed(term, place, names, called, kind, roster, [term[1]])

    def check_pastof(self, term, place, names, called, kind, roster):
        need(term[1] in called)
        self.passed(term, place, names, called, kind, roster, called[term[1]].values())

    def check_handle(self, term, place, names, called, kind, roster):
        word, way, body, (x, then), clauses = term
        own = {clause[0]: clause[0] for clause in clauses}
        within = called
        if word == "under":
            own = {deed: ".".join(map(str, place)) + ":" + deed for deed in own}
            within = {**called, way: own}
            standing = labels(kind) + labels(roster)
            for other, _ in names.values():
                standing.extend(labels(other))
            need(not set(standing) & set(own.values()))
        inside = (tuple(sorted([*roster[0], *own.values()])), roster[1])
        made = self.part(body, 0, place, names, within, inside)
        need(self.part(then, 1, place, {**names, x: (made, set())}, called, roster) == kind)
        for at, (deed, how, u, k, answer) in enumerate(clauses):
            need(deed in self.sheet)
            handed, answered = self.sheet[deed]
            around = {**names, u: (handed, set())}
            if how == "many":
                rest = (inside, made) if way == "shallow" else (roster, kind)
                around[k] = (("fun", answered, *rest), set())
            found = self.part(answer, at + 2, place, around, called, roster)
            need(found == (answered if how == "quick" else kind))

    check_under = check_handle

    def check_ward(self, term, place, names, called, kind, roster):
        need(self.part(term[1], 0, place, names, called, roster) == kind)
        need(self.part(term[2], 1, place, names, called, ((), None)) == "number")


def slow_shows(term, sheet, thing, known=()):
    try:
        SlowCheck(term, sheet, thing, known)
    except No:
        return False
    return True
