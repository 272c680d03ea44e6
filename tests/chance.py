"""Programs made by chance, by a seed of one's own: the same ones each time."""

import random

from handledeeds.terms import is_term, part_at, places_of, put_at

N = "number"
PAIR = ("pair", N, N)

SHEET = (("get", N, N), ("put", PAIR, N), ("say", N, PAIR), ("stop", N, N))

KINDS = {deed: (handed, answered) for deed, handed, answered in SHEET}

DEEDS = sorted(KINDS)

OPS = ("plus", "less", "times", "below")


class Maker:
    """Makes terms of a kind: "number", ("pair", K, K), ("fun", K, K); rosters are left to chance."""

    def __init__(self, seed):
        self.chance = random.Random(seed)
        self.made = 0

    def one_of(self, things):
        return self.chance.choice(things)

    def name(self, sort="x"):
        # Few names, so that many hide one another.
        return self.one_of([sort, sort + "a", sort + "b"])

    def kind(self):
        return self.one_of([N, N, N, N, PAIR, ("fun", N, N), ("fun", N, PAIR), ("pair", N, ("fun", N, N))])

    def term(self, kind, names, called, room):
        """A term of a kind, names a dict from names to kinds, called one from names of answerers to deeds.

        In called those of handles are "", all together.
        """
        forms = [self.leaf]
        if room > 1:
            forms = [self.of_kind, self.call, self.let, self.choice, self.side, self.past, self.ward]
            forms.extend([self.askof, self.askof] if called else [self.leaf])
            forms.extend([self.of_kind, self.answerer, self.answerer, self.ask, self.ask])
        return self.one_of(forms)(kind, names, called, room)

    def leaf(self, kind, names, called, room):
        fit = [name for name in names if names[name] == kind]
        if fit and self.chance.random() < 0.8:
            return ("name", self.one_of(fit))
        if kind == N:
            return ("num", self.chance.randrange(8))
        if kind[0] == "pair":
            return ("two", self.leaf(kind[1], names, called, 1), self.leaf(kind[2], names, called, 1))
        return self.function(kind, names, called, room)

    def of_kind(self, kind, names, called, room):
        if kind == N:
            word = self.one_of(OPS)
            return ("op", word, self.term(N, names, called, room - 1), self.term(N, names, called, room - 1))
        if kind[0] == "pair":
            return ("two", self.term(kind[1], names, called, room - 1), self.term(kind[2], names, called, room - 1))
        return self.function(kind, names, called, room)

    def function(self, kind, names, called, room):
        x = self.name()
        if self.chance.random() < 0.2:
            f = self.name("f")
            return ("rec", f, x, self.term(kind[2], {**names, f: kind, x: kind[1]}, called, room - 1))
        return ("fun", x, self.term(kind[2], {**names, x: kind[1]}, called, room - 1))

    def call(self, kind, names, called, room):
        handed = self.kind()
        made = self.term(("fun", handed, kind), names, called, room - 1)
        return ("call", made, self.term(handed, names, called, room - 1))

    def let(self, kind, names, called, room):
        x = self.name()
        other = self.kind()
        made = self.term(other, names, called, room - 1)
        return ("let", x, made, self.term(kind, {**names, x: other}, called, room - 1))

    def choice(self, kind, names, called, room):
        return ("if", self.term(N, names, called, room - 1), self.term(kind, names, called, room - 1),
                self.term(kind, names, called, room - 1))

    def side(self, kind, names, called, room):
        if self.chance.random() < 0.5:
            return ("first", self.term(("pair", kind, self.kind()), names, called, room - 1))
        return ("second", self.term(("pair", self.kind(), kind), names, called, room - 1))

    def busy(self, kind, names, called, room):
        """A term that asks what is answered around, in many ways."""
        if room < 2:
            return self.askof(kind, names, called, 2) if called else self.leaf(kind, names, called, 1)
        form = self.one_of(["op", "op", "let", "let", "ward", "ward", "past", "ask", "ask", "answerer", "two"])
        if form == "op" and kind == N:
            return ("op", "plus", self.busy(N, names, called, room - 1), self.busy(N, names, called, room - 1))
        if form == "two" and kind[0] == "pair":
            return ("two", self.busy(kind[1], names, called, room - 1), self.busy(kind[2], names, called, room - 1))
        if form == "let":
            made = self.busy(N, names, called, room - 1)
            return ("let", "y", made, self.busy(kind, {**names, "y": N}, called, room - 1))
        if form == "ward":
            cleaning = self.busy(N, names, called, 2) if self.chance.random() < 0.4 else ("num", self.chance.randrange(8))
            return ("ward", self.busy(kind, names, called, room - 1), cleaning)
        if form == "past" and self.chance.random() < 0.5:
            return ("past", self.one_of(called.get("", ()) or DEEDS), self.busy(kind, names, called, room - 1))
        if form == "answerer":
            return self.answerer(kind, names, called, room - 1)
        return self.askof(kind, names, called, room)

    def ask(self, kind, names, called, room):
        fit = [deed for deed in DEEDS if KINDS[deed][1] == kind]
        if not fit:
            return self.leaf(kind, names, called, room)
        answered = [deed for deed in called.get("", ()) if deed in fit]
        deed = self.one_of(answered if answered and self.chance.random() < 0.8 else fit)
        return ("ask", deed, self.term(KINDS[deed][0], names, called, room - 1))

    def askof(self, kind, names, called, room):
        fit = [(h, deed) for h in called if h for deed in called[h] if KINDS[deed][1] == kind]
        if not fit or called.get("", ()) and self.chance.random() < 0.5:
            return self.ask(kind, names, called, room)
        h, deed = self.one_of(fit)
        return ("askof", h, deed, self.term(KINDS[deed][0], names, called, room - 1))

    def past(self, kind, names, called, room):
        around = sorted([h for h in called if h])
        if around and self.chance.random() < 0.5:
            return ("pastof", self.one_of(around), self.term(kind, names, called, room - 1))
        return ("past", self.one_of(called.get("", ()) or DEEDS), self.term(kind, names, called, room - 1))

    def ward(self, kind, names, called, room):
        return ("ward", self.term(kind, names, called, room - 1), self.term(N, names, {}, self.one_of([1, 1, 1, 2, 4])))

    def answerer(self, kind, names, called, room):
        way = self.one_of(["deep", "shallow", "under"])
        deeds = sorted(self.chance.sample(DEEDS, self.one_of([0, 1, 1, 1, 2, 3])))
        other = self.one_of([kind, self.kind()])
        x = self.name()
        if way == "under":
            h = self.name("h")
            called_in = {**called, h: deeds}
        else:
            called_in = {**called, "": [*called.get("", ()), *deeds]}
        made = self.busy if self.chance.random() < 0.8 else self.term
        body = made(other, names, called_in, room - 1)
        then = (x, self.term(kind, {**names, x: other}, called, room - 1))
        clauses = tuple([self.clause(deed, deeds, kind, other, way, names, called, room) for deed in deeds])
        return ("under", h, body, then, clauses) if way == "under" else ("handle", way, body, then, clauses)

    def clause(self, deed, deeds, kind, other, way, names, called, room):
        handed, answered = KINDS[deed]
        how = self.one_of(["many", "many", "end"] if way == "shallow" else ["many", "many", "quick", "end"])
        x = self.name("u")
        within = {**names, x: handed}
        if how == "quick":
            return (deed, how, x, "", self.term(answered, within, called, room - 1))
        if how == "end":
            return (deed, how, x, "", self.term(kind, within, called, room - 1))
        k = self.name("k")
        within[k] = ("fun", answered, other if way == "shallow" else kind)
        if self.chance.random() < 0.7:
            return (deed, how, x, k, self.gone_on(k, answered, deeds, kind, other, way, within, called, room))
        return (deed, how, x, k, self.term(kind, within, called, room - 1))

    def gone_on(self, k, answered, deeds, kind, other, way, names, called, room):
        """A term that goes on with what's kept, of a shallow one with its deeds answered anew."""
        call = ("call", ("name", k), self.term(answered, names, called, room - 2))
        if way == "shallow":
            then = ("y", self.term(kind, {**names, "y": other}, called, room - 2))
            ends = [(deed, "end", "u", "", self.term(kind, {**names, "u": KINDS[deed][0]}, called, 1)) for deed in deeds]
            return ("handle", "deep", call, then, tuple(ends))
        if kind == N and self.chance.random() < 0.3:
            return ("op", "plus", call, ("call", ("name", k), self.term(answered, names, called, 1)))
        return call

    def closed(self, room=6):
        """A term of nothing free, within the bounds of what's handed in."""
        while True:
            made = self.one_of([self.term, self.answerer, self.answerer])
            term = made(self.kind(), {}, {}, self.chance.randrange(2, room + 1))
            if is_term(term):
                return term

    def changed(self, term):
        """The term with one part of it otherwise: another part of it, or a small one."""
        place = self.one_of(places_of(term))
        other = self.one_of([part_at(term, self.one_of(places_of(term))), ("num", 1), ("name", self.name()),
                             ("two", ("num", 1), ("num", 2)), ("fun", "x", ("name", "x"))])
        return put_at(term, place, other)
