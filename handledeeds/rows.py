"""The rows of a program: flat, each thing that is done behind what it needs."""

from handledeeds.free import need_nothing
from handledeeds.shapes import bindings
from handledeeds.shapes import called_key
from handledeeds.shapes import inner


def rows_of(term):
    """The list of the rows of a program; NoName, NoAnswerer of what stands for nothing in it."""
    need_nothing(term)
    writer = Writer()
    writer.write(term)
    return [writer.filled(row) for row in writer.rows]


def further_in(keys, key):
    """How many of the keys that stand around stand further in than the one that's meant."""
    return list(keys[::-1]).index(key)


class Writer:
    """Rows as they're written. Where one tells a place it has a mark instead, as that is known behind only."""

    def __init__(self):
        self.rows = []
        # By mark: the number of the row that it stands ahead of.
        self.places = []

    def mark(self):
        """A new mark."""
        self.places.append(None)
        return len(self.places) - 1

    def write(self, term):
        """Write the rows of a whole program."""
        waiting = [("row", "end"), ("term", term, ())]
        while waiting:
            sort, *told = waiting.pop()
            if sort == "term":
                waiting.extend(self.laid(told[0], told[1])[::-1])
            elif sort == "mark":
                self.places[told[0]] = len(self.rows)
            else:
                self.rows.append(tuple(told))

    def laid(self, term, keys):
        """What a term's rows are made of, in order: rows, marks, the TERMs straight within it."""
        word = term[0]
        within = [("term", part, keys + more) for part, more in zip(inner(term), bindings(term))]
        if word == "num":
            return [("row", *term)]
        if word == "name":
            return [("row", "get", further_in(keys, term[1]))]
        if word == "fun" or word == "rec":
            behind = self.mark()
            return [("row", word, behind), *within, ("row", "back"), ("mark", behind)]
        if word == "let":
            return [within[0], ("row", "name"), within[1], ("row", "unname")]
        if word == "if":
            return self.laid_if(within)
        if word == "past":
            return [("row", "past", term[1]), *within, ("row", "unpast")]
        if word == "pastof":
            return [("row", "pastof", further_in(keys, called_key(term[1]))), *within, ("row", "unpast")]
        if word == "handle" or word == "under":
            return self.laid_answerer(term, within)
        if word == "ward":
            at = self.mark()
            return [("row", "ward", at), within[1], ("row", "back"), ("mark", at), within[0], ("row", "unward")]
        if word == "askof":
            return [*within, ("row", "askof", further_in(keys, called_key(term[1])), term[2])]
        # A call, an op, a pair, a side of one, an ask.
        return [*within, ("row", *[field for field in term if type(field) is str])]

    def laid_if(self, within):
        """Likewise of an if."""
        other = self.mark()
        behind = self.mark()
        asked, chosen, left = within
        return [asked, ("row", "ifno", other), chosen, ("row", "to", behind), ("mark", other), left, ("mark", behind)]

    def laid_answerer(self, term, within):
        """Likewise of an answerer."""
        starts = [self.mark() for _ in within[1:]]
        at = self.mark()
        behind = self.mark()
        clauses = tuple([(clause[0], clause[1], start) for clause, start in zip(term[4], starts[1:])])
        way = "under" if term[0] == "under" else term[1]
        items = [("row", "handle", way, starts[0], clauses, at, behind)]
        for start, part in zip(starts, within[1:]):
            items.extend([("mark", start), part, ("row", "back")])
        return [*items, ("mark", at), within[0], ("row", "leave"), ("mark", behind)]

    def filled(self, row):
        """The row with places for its marks."""
        if row[0] == "handle":
            _, way, first, clauses, at, behind = row
            answered = tuple([(deed, how, self.places[start]) for deed, how, start in clauses])
            return ("handle", way, self.places[first], answered, self.places[at], self.places[behind])
        if row[0] in ("fun", "rec", "ifno", "to", "ward"):
            return (row[0], self.places[row[1]])
        return row
