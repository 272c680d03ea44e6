"""How the forms of TERMs are built, and what stands for what within them.

What may be bound is a key, the pair ("name", x) or ("answerer", h): names and names of answerers
that are called alike are so kept apart.
"""

SHAPES = {
    "num": ("number",),
    "name": ("name",),
    "fun": ("name", "term"),
    "rec": ("name", "name", "term"),
    "call": ("term", "term"),
    "let": ("name", "term", "term"),
    "op": ("op", "term", "term"),
    "if": ("term", "term", "term"),
    "two": ("term", "term"),
    "first": ("term",),
    "second": ("term",),
    "ask": ("deed", "term"),
    "askof": ("name", "deed", "term"),
    "past": ("deed", "term"),
    "pastof": ("name", "term"),
    "handle": ("way", "term", "then", "clauses"),
    "under": ("name", "term", "then", "clauses"),
    "ward": ("term", "term"),
}


def inner(term):
    """The list of the TERMs straight within a term, in their order."""
    found = []
    for kind, field in zip(SHAPES[term[0]], term[1:]):
        if kind == "term":
            found.append(field)
        elif kind == "then":
            found.append(field[1])
        elif kind == "clauses":
            found.extend([clause[4] for clause in field])
    return found


def rebuilt(term, parts):
    """The term with these parts in the places of those straight within it."""
    fields = [term[0]]
    at = 0
    for kind, field in zip(SHAPES[term[0]], term[1:]):
        if kind == "term":
            fields.append(parts[at])
            at += 1
        elif kind == "then":
            fields.append((field[0], parts[at]))
            at += 1
        elif kind == "clauses":
            fields.append(tuple([(*clause[:4], part) for clause, part in zip(field, parts[at:])]))
        else:
            fields.append(field)
    return tuple(fields)


def name_keys(names):
    """The keys of names."""
    return tuple([("name", name) for name in names])


def clause_keys(clause):
    """The keys that a clause binds in its own TERM."""
    return name_keys(clause[2:4] if clause[1] == "many" else clause[2:3])


def clause_deeds(term):
    """The list of the deeds of an answerer's clauses; of any other term none."""
    if term[0] == "handle" or term[0] == "under":
        return [clause[0] for clause in term[4]]
    return []


def bindings(term):
    """For each TERM straight within a term, the tuple of the keys that the term binds in it."""
    word = term[0]
    if word == "fun":
        return [name_keys(term[1:2])]
    if word == "rec":
        return [name_keys(term[1:3])]
    if word == "let":
        return [(), name_keys(term[1:2])]
    if word == "handle" or word == "under":
        around = (("answerer", term[1]),) if word == "under" else ()
        return [around, name_keys(term[3][:1])] + [clause_keys(clause) for clause in term[4]]
    return [()] * len(inner(term))


def with_keys(around, keys, things):
    """A dict by keys with these things for these keys, which hide like ones further out."""
    if not keys:
        return around
    told = {key: around[key] for key in around}
    for key, thing in zip(keys, things):
        told[key] = thing
    return told


def uses(term):
    """The list of the keys that the term itself, none of the TERMs within, asks for."""
    if term[0] == "name":
        return [("name", term[1])]
    if term[0] == "askof" or term[0] == "pastof":
        return [("answerer", term[1])]
    return []


def bones(term):
    """What of the term itself stays, whatever is called otherwise: words, numbers and deeds."""
    kept = [term[0]]
    for kind, field in zip(SHAPES[term[0]], term[1:]):
        if kind == "clauses":
            kept.append(tuple([clause[:2] for clause in field]))
        elif kind not in ("name", "term", "then"):
            kept.append(field)
    return tuple(kept)
