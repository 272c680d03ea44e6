"""Runs a program by turning the tree itself into another one, word by word as [12] tells it.

Beside TERMs a tree has ("pair", V, W); ("kept", tree), where ("hole",) is left; ("at", number, T, (x, U),
clauses), an under that's come to; ("askat", number, deed, T), ("pastat", number, T), what asks and
passes that one; ("quick", kept, V); ("cleaning", U, V), of a ward; ("sweep", (U, ..), V), of those dropped.
"""

VALUES = ("num", "fun", "rec", "pair", "kept")

# How many parts are come to, one behind the other.
FIRST = {"call": 2, "op": 2, "two": 2, "let": 1, "if": 1, "first": 1, "second": 1, "ask": 1, "askat": 1, "handle": 1,
         "at": 1, "past": 1, "pastat": 1, "ward": 1, "quick": 1, "cleaning": 1, "sweep": 1}


class Over(Exception):
    """The run is over, with this outcome."""


def index_of(tree, at):
    """Where in a tree's tuple its part stands."""
    return {"op": 2, "let": 2, "ask": 2, "askat": 3, "handle": 2, "at": 2, "past": 2, "pastat": 2, "quick": 2}.get(tree[0], 1) + at


def part(tree, at):
    if tree[0] == "sweep":
        return tree[1][0]
    return tree[index_of(tree, at)]


def with_part(tree, at, other):
    if tree[0] == "sweep":
        return ("sweep", (other, *tree[1][1:]), tree[2])
    where = index_of(tree, at)
    return (*tree[:where], other, *tree[where + 1:])


def put(tree, path, other):
    if not path:
        return other
    return with_part(tree, path[0], put(part(tree, path[0]), path[1:], other))


def at_path(tree, path):
    for at in path:
        tree = part(tree, at)
    return tree


def put_for(tree, name, value):
    """The tree with a VALUE for a name."""
    word = tree[0]
    if word == "name":
        return value if tree[1] == name else tree
    if word in ("num", "pair", "kept", "hole"):
        return tree
    if word == "fun" or word == "rec":
        return tree if name in tree[1:-1] else (*tree[:-1], put_for(tree[-1], name, value))
    if word == "let":
        return ("let", tree[1], put_for(tree[2], name, value), tree[3] if tree[1] == name else put_for(tree[3], name, value))
    if word in ("handle", "under"):
        x, body = tree[3]
        then = (x, body if x == name else put_for(body, name, value))
        clauses = [clause if name in clause[2:4] else (*clause[:4], put_for(clause[4], name, value)) for clause in tree[4]]
        return (word, tree[1], put_for(tree[2], name, value), then, tuple(clauses))
    return tuple([put_for(thing, name, value) if isinstance(thing, tuple) else thing for thing in tree])


def put_for_called(tree, called, number):
    """The tree with an answerer's name standing for the under of this number."""
    word = tree[0]
    if word in ("num", "name", "pair", "kept"):
        return tree
    if word == "under" or word == "handle":
        x, body = tree[3]
        within = tree[2] if word == "under" and tree[1] == called else put_for_called(tree[2], called, number)
        clauses = [(*clause[:4], put_for_called(clause[4], called, number)) for clause in tree[4]]
        return (word, tree[1], within, (x, put_for_called(body, called, number)), tuple(clauses))
    told = tuple([put_for_called(thing, called, number) if isinstance(thing, tuple) else thing for thing in tree])
    if word == "askof" and tree[1] == called:
        return ("askat", number, *told[2:])
    if word == "pastof" and tree[1] == called:
        return ("pastat", number, *told[2:])
    return told


def parts(value):
    return 1 + parts(value[1]) + parts(value[2]) if value[0] == "pair" else 1


def told(value):
    if value[0] == "pair":
        return (told(value[1]), told(value[2]))
    return value[1] if value[0] == "num" else "fun"


def of_answer(answer):
    return ("pair", of_answer(answer[0]), of_answer(answer[1])) if isinstance(answer, tuple) else ("num", answer)


class SlowRun:
    def __init__(self, term, answers, most):
        self.tree = term
        self.answers = list(answers)
        self.most = most
        self.trace = []
        self.calls = self.asks = self.resumed = self.unders = 0

    def run(self):
        try:
            while True:
                self.step()
        except Over as over:
            return over.args[0]

    def step(self):
        path = []
        tree = self.tree
        while True:
            word = tree[0]
            if word in VALUES:
                break
            if word == "under":
                # As it's come to.
                body = put_for_called(tree[2], tree[1], self.unders)
                self.unders += 1
                self.tree = put(self.tree, path, ("at", self.unders - 1, body, tree[3], tree[4]))
                return
            waiting = [at for at in range(FIRST[word]) if part(tree, at)[0] not in VALUES]
            if not waiting:
                self.turn(tree, path)
                return
            path.append(waiting[0])
            tree = part(tree, waiting[0])
        raise Over(("done", told(self.tree)))

    def to(self, path, other):
        self.tree = put(self.tree, path, other)

    def count(self):
        if self.calls + self.asks + 1 > self.most:
            raise Over(("long",))

    def resume(self):
        if self.resumed + 1 > 2 * self.most:
            raise Over(("long",))
        self.resumed += 1

    def turn(self, tree, path):
        getattr(self, "turn_" + tree[0])(tree, path)

    def turn_call(self, tree, path):
        _, made, value = tree
        if made[0] == "kept":
            self.resume()
            self.to(path, fill(made[1], value))
        elif made[0] in ("fun", "rec"):
            self.count()
            self.calls += 1
            body = put_for(made[-1], made[-2], value)
            self.to(path, put_for(body, made[1], made) if made[0] == "rec" else body)
        else:
            raise Over(("stuck", "call"))

    def turn_let(self, tree, path):
        self.to(path, put_for(tree[3], tree[1], tree[2]))

    def turn_two(self, tree, path):
        pair = ("pair", tree[1], tree[2])
        if parts(pair) > 60:
            raise Over(("long",))
        self.to(path, pair)

    def turn_op(self, tree, path):
        _, word, left, right = tree
        if left[0] != "num" or right[0] != "num":
            raise Over(("stuck", "number"))
        a, b = left[1], right[1]
        number = {"plus": a + b, "less": a - b, "times": a * b, "below": int(a < b)}[word]
        self.to(path, ("num", number % 997))

    def turn_if(self, tree, path):
        if tree[1][0] != "num":
            raise Over(("stuck", "number"))
        self.to(path, tree[3] if tree[1][1] == 0 else tree[2])

    def turn_first(self, tree, path):
        if tree[1][0] != "pair":
            raise Over(("stuck", "pair"))
        self.to(path, tree[1][1] if tree[0] == "first" else tree[1][2])

    turn_second = turn_first

    def turn_handle(self, tree, path):
        self.to(path, put_for(tree[3][1], tree[3][0], tree[2]))

    turn_at = turn_handle

    def turn_past(self, tree, path):
        self.to(path, tree[2])

    turn_pastat = turn_past

    def turn_ward(self, tree, path):
        self.to(path, ("cleaning", tree[2], tree[1]))

    def turn_cleaning(self, tree, path):
        self.trace.append(("clean", told(tree[1])))
        self.to(path, tree[2])

    def turn_sweep(self, tree, path):
        self.trace.append(("clean", told(tree[1][0])))
        rest = tree[1][1:]
        self.to(path, ("sweep", rest, tree[2]) if rest else tree[2])

    def turn_quick(self, tree, path):
        self.resume()
        self.to(path, fill(tree[1], tree[2]))

    def turn_ask(self, tree, path):
        _, deed, value = tree
        self.count()
        self.asks += 1
        self.trace.append(("ask", deed, told(value)))
        count = 0
        for far in range(len(path) - 1, -1, -1):
            around = at_path(self.tree, path[:far])
            if around[:2] == ("past", deed):
                count += 1
            elif around[0] == "handle" and deed in [clause[0] for clause in around[4]]:
                if not count:
                    return self.answer(path[:far], path[far:], deed, value)
                count -= 1
        if not self.answers:
            raise Over(("asks", deed, told(value)))
        self.to(path, of_answer(self.answers.pop(0)))

    def turn_askat(self, tree, path):
        _, number, deed, value = tree
        for far in range(len(path) - 1, -1, -1):
            around = at_path(self.tree, path[:far])
            if around[:2] == ("at", number):
                if deed not in [clause[0] for clause in around[4]]:
                    break
                self.count()
                self.asks += 1
                self.trace.append(("ask", deed, told(value)))
                return self.answer(path[:far], path[far:], deed, value)
        raise Over(("stuck", "answerer"))

    def answer(self, path, rest, deed, value):
        answerer = at_path(self.tree, path)
        [(_, how, x, k, body)] = [clause for clause in answerer[4] if clause[0] == deed]
        left = put(answerer, rest, ("hole",))
        if how == "many":
            body = put_for(body, k, ("kept", left[2] if answerer[1] == "shallow" else left))
        body = put_for(body, x, value)
        if how == "quick":
            self.to(path, ("quick", left, body))
        elif how == "end":
            wards = []
            for far in range(1, len(rest) + 1):
                dropped = at_path(answerer, rest[:far])
                if dropped[0] == "ward":
                    wards.insert(0, dropped[2])
            self.to(path, ("sweep", tuple(wards), body) if wards else body)
        else:
            self.to(path, body)


def fill(tree, value):
    """The tree with a VALUE where the hole is, on the way to what's come to next."""
    if tree == ("hole",):
        return value
    for at in range(FIRST[tree[0]]):
        if part(tree, at)[0] not in VALUES:
            return with_part(tree, at, fill(part(tree, at), value))
    raise ValueError


def slow_run(term, answers=(), most=100):
    """(outcome, trace, counts)."""
    run = SlowRun(term, answers, most)
    outcome = run.run()
    return (outcome, run.trace, (run.calls, run.asks))


def as_term(tree):
    """The TERM of a tree; None where it has what no TERM has."""
    word = tree[0]
    if word in ("kept", "at", "askat", "pastat", "quick", "cleaning", "sweep"):
        return None
    if word == "pair":
        return as_term(("two", tree[1], tree[2]))
    told = []
    for at, thing in enumerate(tree):
        if at == 3 and word in ("handle", "under"):
            told.append((thing[0], as_term(thing[1])))
        elif at == 4 and word in ("handle", "under"):
            told.append(tuple([(*clause[:4], as_term(clause[4])) for clause in thing]))
        else:
            told.append(as_term(thing) if isinstance(thing, tuple) else thing)
        if told[-1] is None or "None" in repr(told[-1]):
            return None
    return tuple(told)


def slow_terms(term, most=100):
    """The list of the TERMs of all trees that a run comes to, None where a tree is none."""
    run = SlowRun(term, (), most)
    told = [as_term(run.tree)]
    try:
        while True:
            run.step()
            told.append(as_term(run.tree))
    except Over:
        return told
