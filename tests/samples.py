"""TERMs and texts that several tests use."""

ONE = ("num", 1)
TWO = ("num", 2)
THREE = ("num", 3)
X = ("name", "x")
Y = ("name", "y")

GET_QUICK = ("get", "quick", "u", "", X)
PUT_MANY = ("put", "many", "v", "k", ("call", ("name", "k"), ("name", "v")))
STOP_END = ("stop", "end", "w", "", TWO)

DEEP = ("handle", "deep", ("ask", "get", ONE), ("x", X), (GET_QUICK, PUT_MANY, STOP_END))
SHALLOW = ("handle", "shallow", ("ask", "put", ONE), ("x", ("two", X, Y)), (PUT_MANY, STOP_END))
UNDER = ("under", "h", ("askof", "h", "get", ONE), ("x", X), (GET_QUICK,))

# Each form of [4], with its text.
TEXTS = [
    (("num", 0), "0"),
    (("num", 7), "7"),
    (("num", 996), "996"),
    (X, "x"),
    (("name", "abcdef"), "abcdef"),
    (("fun", "x", X), "fun x x"),
    (("rec", "f", "x", ("call", ("name", "f"), X)), "rec f x call f x"),
    (("call", X, ONE), "call x 1"),
    (("let", "x", ONE, X), "let x 1 x"),
    (("op", "plus", ONE, TWO), "plus 1 2"),
    (("op", "less", ONE, TWO), "less 1 2"),
    (("op", "times", ONE, TWO), "times 1 2"),
    (("op", "below", ONE, TWO), "below 1 2"),
    (("if", ONE, TWO, THREE), "if 1 2 3"),
    (("two", ONE, X), "two 1 x"),
    (("first", X), "first x"),
    (("second", X), "second x"),
    (("ask", "get", ONE), "ask get 1"),
    (("askof", "h", "get", ONE), "askof h get 1"),
    (("past", "get", ONE), "past get 1"),
    (("pastof", "h", ONE), "pastof h 1"),
    (("handle", "deep", ONE, ("x", X), ()), "deep 1 x x 0"),
    (("handle", "shallow", ONE, ("x", TWO), ()), "shallow 1 x 2 0"),
    (("under", "h", ONE, ("x", X), ()), "under h 1 x x 0"),
    (DEEP, "deep ask get 1 x x 3 quick get u x many put v k call k v end stop w 2"),
    (SHALLOW, "shallow ask put 1 x two x y 2 many put v k call k v end stop w 2"),
    (UNDER, "under h askof h get 1 x x 1 quick get u x"),
    (("ward", ONE, X), "ward 1 x"),
]

# Names of what isn't a word of a form are names as good as any.
TEXTS.extend([((("name", word)), word) for word in ("num", "name", "op", "handle", "clause", "term")])

TERMS = [term for term, _ in TEXTS]


def nested(depth):
    """A term of so many parts, one within another."""
    term = ONE
    for _ in range(depth - 1):
        term = ("first", term)
    return term


def spread(parts):
    """A term of so many parts, not deep: twos of twos, and one first where the number is even."""
    if parts == 1:
        return ONE
    if parts == 2:
        return ("first", ONE)
    left = (parts - 1) // 2
    return ("two", spread(left), spread(parts - 1 - left))


def answerer(clauses, way="deep"):
    return ("handle", way, ONE, ("x", X), clauses)


def ends(deeds):
    """Clauses of these deeds."""
    return tuple([(deed, "end", "x", "", ONE) for deed in deeds])


def frozen(thing):
    """A text of all that is in a thing, to see whether it was changed."""
    return repr(thing)
