"""How the forms of TERMs are built, and what stands for what within them.

What may be bound is a key: a name itself, of an answerer its name behind a colon. So names and names of
answerers that are called alike are kept apart.
"""

SHAPES = {
    "num": ("number",),
    "name": ("name",),
    "fun": ("name", "term"),
    "rec": ("name", "name", "term"),
    "call": ("term", "term"),
    "let": ("name", "term", "term"),
    "op": ("op", "term", "term"),
    "if": ("term", "term", "term"),
    "two": ("term", "term"),
    "first": ("term",),
    "second": ("term",),
    "ask": ("deed", "term"),
    "askof": ("name", "deed", "term"),
    "past": ("deed", "term"),
    "pastof": ("name", "term"),
    "handle": ("way", "term", "then", "clauses"),
    "under": ("name", "term", "then", "clauses"),
    "ward": ("term", "term"),
}

# Where in a term those within it begin, up to its end; 0 of answerers, which aren't built so.
FIRST_INNER = {
    "num": 2,
    "name": 2,
    "fun": 2,
    "rec": 3,
    "call": 1,
    "let": 2,
    "op": 2,
    "if": 1,
    "two": 1,
    "first": 1,
    "second": 1,
    "ask": 2,
    "askof": 3,
    "past": 2,
    "pastof": 2,
    "handle": 0,
    "under": 0,
    "ward": 1,
}

BINDERS = {
    "fun": True,
    "rec": True,
    "let": True,
    "handle": True,
    "under": True,
}

NOTHING_BOUND = ((), (), ())


def inner(term):
    """The tuple of the TERMs straight within a term, in their order."""
    first = FIRST_INNER[term[0]]
    if first > 0:
        return term[first:]
    return (term[2], term[3][1], *[clause[4] for clause in term[4]])


def rebuilt(term, parts):
    """The term with these parts, a list, in the places of those straight within it."""
    first = FIRST_INNER[term[0]]
    if first > 0:
        return (*term[:first], *parts)
    clauses = tuple([(*clause[:4], part) for clause, part in zip(term[4], parts[2:])])
    return (*term[:2], parts[0], (term[3][0], parts[1]), clauses)


def called_key(called):
    """The key of an answerer's name."""
    return ":" + called


def is_called_key(key):
    """Whether a key is an answerer's."""
    return key.startswith(":")


def clause_keys(clause):
    """The keys that a clause binds in its own TERM."""
    return clause[2:4] if clause[1] == "many" else clause[2:3]


def clause_deeds(term):
    """The list of the deeds of an answerer's clauses; of any other term none."""
    if FIRST_INNER[term[0]] > 0:
        return []
    return [clause[0] for clause in term[4]]


def bindings(term):
    """For each TERM straight within a term, in their order, the tuple of the keys that the term binds in it."""
    word = term[0]
    if word == "fun" or word == "rec":
        return (term[1:-1],)
    if word == "let":
        return ((), term[1:2])
    if FIRST_INNER[word] > 0:
        return NOTHING_BOUND
    around = (called_key(term[1]),) if word == "under" else ()
    return (around, term[3][:1], *[clause_keys(clause) for clause in term[4]])


def with_keys(around, keys, things):
    """A dict by keys with these things for these keys, which hide like ones further out."""
    if not keys:
        return around
    told = dict(around)
    for key, thing in zip(keys, things):
        told[key] = thing
    return told


def uses(term):
    """The tuple of the keys that the term itself, none of the TERMs within, asks for."""
    word = term[0]
    if word == "name":
        return term[1:]
    if word == "askof" or word == "pastof":
        return (called_key(term[1]),)
    return ()


def bones(term):
    """What of the term itself stays, whatever is called otherwise: words, numbers and deeds."""
    word = term[0]
    if word == "name" or word == "fun" or word == "rec" or word == "let" or word == "pastof":
        return word
    if word == "askof":
        return (word, term[2])
    first = FIRST_INNER[word]
    if first > 0:
        return term[:first]
    way = term[1] if word == "handle" else ""
    return (word, way, *[clause[:2] for clause in term[4]])
