"""Counts what a machine does, by a way of its own: over the TERM itself, what's left to do in linked chains.

A piece is (answerer, chain), the answerer None of the outermost one, else (term, scope, number); a chain
is None or (frame, chain). Each row that [14] tells of a form is counted where it's come to.
"""


class Over(Exception):
    """The run is over, or waits, with this outcome."""


def told(value):
    if value[0] == "pair":
        return (told(value[1]), told(value[2]))
    return value[1] if value[0] == "num" else "fun"


def parts(value):
    return 1 + parts(value[1]) + parts(value[2]) if value[0] == "pair" else 1


def of_answer(answer):
    return ("pair", of_answer(answer[0]), of_answer(answer[1])) if isinstance(answer, tuple) else ("num", answer)


class SlowMachine:
    """rows: how many are done; depths: how many pieces there are behind each; moved; trace; marks: rows at each event."""

    def __init__(self, term, answers=(), most=100):
        self.answers = list(answers)
        self.most = most
        self.rows = self.moved = self.calls = self.asks = self.resumed = self.unders = 0
        self.depths = []
        self.trace = []
        self.marks = []
        self.pieces = [(None, None)]
        self.now = ("eval", term, {})

    def run(self):
        try:
            while True:
                if self.now[0] == "eval":
                    self.look_into(self.now[1], self.now[2])
                else:
                    self.tell(self.now[1])
        except Over as over:
            return over.args[0]

    def row(self):
        self.rows += 1
        self.depths.append(len(self.pieces))

    def event(self, thing):
        self.trace.append(thing)
        self.marks.append(self.rows + 1)

    def push(self, *frame):
        answerer, chain = self.pieces[-1]
        self.pieces[-1] = (answerer, (frame, chain))

    def pop(self):
        answerer, (frame, chain) = self.pieces[-1]
        self.pieces[-1] = (answerer, chain)
        return frame

    def eval(self, term, scope):
        self.now = ("eval", term, scope)

    def value(self, value):
        self.now = ("tell", value)

    def look_into(self, term, scope):
        word = term[0]
        if word == "num":
            self.value(term)
            self.row()
        elif word == "name":
            self.value(scope["n", term[1]])
            self.row()
        elif word in ("fun", "rec"):
            self.value((word, term, scope))
            self.row()
        elif word in ("call", "op", "two"):
            at = 2 if word == "op" else 1
            self.push("left", term, term[at + 1], scope)
            self.eval(term[at], scope)
        elif word == "let":
            self.push("let", term, scope)
            self.eval(term[2], scope)
        elif word == "if":
            self.push("if", term, scope)
            self.eval(term[1], scope)
        elif word in ("first", "second"):
            self.push(word)
            self.eval(term[1], scope)
        elif word in ("ask", "askof"):
            self.push(word, term, scope)
            self.eval(term[-1], scope)
        elif word in ("past", "pastof"):
            self.push(word, term[1])
            self.row()
            self.eval(term[2], scope)
        elif word == "ward":
            self.push("ward", term[2], scope)
            self.row()
            self.eval(term[1], scope)
        else:
            number = None
            within = scope
            if word == "under":
                number = self.unders
                self.unders += 1
                within = {**scope, ("a", term[1]): number}
            self.push("back")
            self.pieces.append(((term, scope, number), None))
            self.row()
            self.eval(term[2], within)

    def tell(self, value):
        answerer, chain = self.pieces[-1]
        if chain is None:
            if answerer is None:
                self.row()
                raise Over(("done", told(value)))
            term, scope, _ = answerer
            self.pieces.pop()
            self.row()
            self.eval(term[3][1], {**scope, ("n", term[3][0]): value})
            return
        getattr(self, "tell_" + chain[0][0])(value, *chain[0][1:])

    def tell_left(self, value, term, other, scope):
        self.pop()
        self.push("right", term, value, scope)
        self.eval(other, scope)

    def tell_right(self, value, term, first, scope):
        word = term[0]
        if word == "op":
            if first[0] != "num" or value[0] != "num":
                raise Over(("stuck", "number"))
            a, b = first[1], value[1]
            self.pop()
            self.value(("num", {"plus": a + b, "less": a - b, "times": a * b, "below": int(a < b)}[term[1]] % 997))
        elif word == "two":
            if 1 + parts(first) + parts(value) > 60:
                raise Over(("long",))
            self.pop()
            self.value(("pair", first, value))
        elif first[0] in ("num", "pair"):
            raise Over(("stuck", "call"))
        elif first[0] == "kept":
            self.check_worn()
            self.pop()
            self.push("back")
            self.moved += first[2]
            self.go_on(first[1], value)
        else:
            self.check_full()
            self.calls += 1
            self.pop()
            self.push("back")
            _, made, around = first
            within = {**around, ("n", made[-2]): value}
            if made[0] == "rec":
                within = {**within, ("n", made[1]): first}
            self.eval(made[-1], within)
        self.row()

    def check_full(self):
        if self.calls + self.asks >= self.most:
            raise Over(("long",))

    def check_worn(self):
        if self.resumed >= 2 * self.most:
            raise Over(("long",))

    def go_on(self, pieces, value):
        """Pieces, of which a shallow one's has None for its answerer, are put back."""
        self.resumed += 1
        first, *more = pieces
        if first[0] is None:
            # What's left of T of a shallow one goes on where it's called; the row leave still ends it.
            frames = []
            chain = first[1]
            while chain is not None:
                frames.append(chain[0])
                chain = chain[1]
            for frame in [("leave",), *frames[::-1]]:
                self.push(*frame)
        else:
            self.pieces.append(first)
        self.pieces.extend(more)
        self.value(value)

    def tell_leave(self, value):
        self.pop()
        self.pop()
        self.row()

    def tell_back(self, value):
        self.pop()
        self.row()

    def tell_let(self, value, term, scope):
        self.pop()
        self.row()
        self.push("unname")
        self.eval(term[3], {**scope, ("n", term[1]): value})

    def tell_unname(self, value):
        self.pop()
        self.row()

    def tell_if(self, value, term, scope):
        if value[0] != "num":
            raise Over(("stuck", "number"))
        self.pop()
        self.row()
        if value[1] == 0:
            self.eval(term[3], scope)
        else:
            self.push("to")
            self.eval(term[2], scope)

    tell_to = tell_unname
    tell_past = tell_pastof = lambda self, value, called: self.tell_unname(value)

    def tell_first(self, value):
        if value[0] != "pair":
            raise Over(("stuck", "pair"))
        self.value(value[1] if self.pop()[0] == "first" else value[2])
        self.row()

    tell_second = tell_first

    def tell_ward(self, value, cleaning, scope):
        self.pop()
        self.push("cleaned", value)
        self.row()
        self.eval(cleaning, scope)

    def tell_cleaned(self, value, other):
        self.pop()
        self.event(("clean", told(value)))
        self.row()
        self.value(other)

    def tell_sweep(self, value, wards, then, scope):
        self.pop()
        self.event(("clean", told(value)))
        self.row()
        self.sweep(wards, then, scope)

    def sweep(self, wards, then, scope):
        if wards:
            self.push("sweep", wards[1:], then, scope)
            self.eval(*wards[0])
        else:
            self.eval(then, scope)

    def tell_waits(self, value, pieces):
        self.check_worn()
        self.pop()
        self.go_on(pieces, value)
        self.row()

    def tell_ask(self, value, term, scope):
        self.check_full()
        self.asks += 1
        self.event(("ask", term[1], told(value)))
        self.pop()
        passes = 0
        for at in range(len(self.pieces) - 1, -1, -1):
            answerer, chain = self.pieces[at]
            while chain is not None:
                passes += chain[0] == ("past", term[1])
                chain = chain[1]
            if answerer is not None and answerer[2] is None:
                for clause in answerer[0][4]:
                    if clause[0] == term[1]:
                        if passes == 0:
                            return self.answer(at, clause, value)
                        passes -= 1
        self.row()
        if not self.answers:
            raise Over(("asks", term[1], told(value)))
        self.value(of_answer(self.answers.pop(0)))

    def tell_askof(self, value, term, scope):
        number = scope["a", term[1]]
        for at in range(len(self.pieces) - 1, 0, -1):
            if self.pieces[at][0][2] == number:
                for clause in self.pieces[at][0][0][4]:
                    if clause[0] == term[2]:
                        self.check_full()
                        self.asks += 1
                        self.event(("ask", term[2], told(value)))
                        self.pop()
                        return self.answer(at, clause, value)
                break
        raise Over(("stuck", "answerer"))

    def answer(self, at, clause, value):
        taken = self.pieces[at:]
        del self.pieces[at:]
        (term, scope, _), chain = taken[0]
        _, how, x, k, body = clause
        within = {**scope, ("n", x): value}
        if how == "end":
            wards = []
            for _, frames in taken:
                found = []
                while frames is not None:
                    if frames[0][0] == "ward":
                        found.append(frames[0][1:])
                    frames = frames[1]
                wards = found + wards
            self.sweep(wards, body, within)
        elif how == "quick":
            self.push("waits", taken)
            self.eval(body, within)
        else:
            self.moved += len(taken)
            if term[1] == "shallow":
                taken = [(None, chain), *taken[1:]]
            self.eval(body, {**within, ("n", k): ("kept", taken, len(taken))})
        self.row()
