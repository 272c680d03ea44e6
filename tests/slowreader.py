"""Reads texts of terms by calls within calls: another way than the program's, to compare with."""

from handledeeds.limits import KEYWORDS, OPS

PLAIN = {
    "fun": "nt", "call": "tt", "let": "ntt", "if": "ttt", "two": "tt", "first": "t", "second": "t", "ask": "nt",
    "askof": "nnt", "past": "nt", "pastof": "nt", "ward": "tt",
}


class Bad(Exception):
    """No text goes on with the word of this number, or there is none."""


def named(word):
    return 0 < len(word) < 7 and all(sign in "abcdefghijklmnopqrstuvwxyz" for sign in word) and word not in KEYWORDS


def name_behind(name):
    """The next NAME, in Python's order; None where there's none."""
    while True:
        if len(name) < 6:
            name = name + "a"
        else:
            name = name.rstrip("z")
            if not name:
                return None
            name = name[:-1] + chr(ord(name[-1]) + 1)
        if named(name):
            return name


def room_above(name, many):
    for _ in range(many):
        name = name_behind(name)
        if name is None:
            return False
    return True


class SlowReader:
    def __init__(self, text):
        self.words = text.split(" ")
        self.at = 0

    def word(self, lets):
        if self.at == len(self.words) or not lets(self.words[self.at]):
            raise Bad(self.at)
        self.at += 1
        return self.words[self.at - 1]

    def name(self, other=None):
        return self.word(lambda word: named(word) and word != other)

    def term(self):
        word = self.word(lambda word: True)
        if word in [str(n) for n in range(997)]:
            return ("num", int(word))
        if named(word):
            return ("name", word)
        if word in OPS:
            return ("op", word, self.term(), self.term())
        if word in PLAIN:
            return (word, *[self.name() if kind == "n" else self.term() for kind in PLAIN[word]])
        if word == "rec":
            f = self.name()
            return ("rec", f, self.name(f), self.term())
        if word in ("deep", "shallow"):
            return ("handle", word, self.term(), (self.name(), self.term()), self.clauses(word))
        if word == "under":
            return ("under", self.name(), self.term(), (self.name(), self.term()), self.clauses(word))
        raise Bad(self.at - 1)

    def clauses(self, way):
        told = []
        many = int(self.word(lambda word: word in ("0", "1", "2", "3", "4")))
        last = ""
        for left in range(many - 1, -1, -1):
            hows = ("many", "end") if way == "shallow" else ("many", "end", "quick")
            how = self.word(lambda word: word in hows)
            last = self.word(lambda word: named(word) and word > last and room_above(word, left))
            x = self.name()
            k = self.name(x) if how == "many" else ""
            told.append((last, how, x, k, self.term()))
        return tuple(told)


def parts(term):
    """Parts and depth of a term."""
    told = [parts(thing) for thing in within(term)]
    return 1 + sum([many for many, _ in told]), 1 + max([deep for _, deep in told], default=0)


def within(term):
    if term[0] in ("handle", "under"):
        return [term[2], term[3][1], *[clause[4] for clause in term[4]]]
    return [thing for thing in term[1:] if isinstance(thing, tuple)]


def slow_term_in(text):
    """("term", TERM) or ("bad", at)."""
    reader = SlowReader(text)
    try:
        term = reader.term()
        reader.word(lambda word: False) if reader.at < len(reader.words) else None
    except Bad as bad:
        return ("bad", bad.args[0])
    many, deep = parts(term)
    if many > 120 or deep > 20:
        return ("bad", len(reader.words))
    return ("term", term)
