"""rows.py ([14])."""

import unittest

from handledeeds.errors import NoAnswerer, NoName
from handledeeds.rows import rows_of
from handledeeds.terms import answerers_free, are_like, names_free
from handledeeds.termtext import term_in
from tests.chance import Maker
from tests.samples import TERMS, frozen

# A text, and its rows by hand.
ROWS = [
    ("7", [("num", 7)]),
    ("plus 1 2", [("num", 1), ("num", 2), ("op", "plus")]),
    ("less 1 2", [("num", 1), ("num", 2), ("op", "less")]),
    ("times 1 below 2 3", [("num", 1), ("num", 2), ("num", 3), ("op", "below"), ("op", "times")]),
    ("call 1 2", [("num", 1), ("num", 2), ("call",)]),
    ("two 1 2", [("num", 1), ("num", 2), ("two",)]),
    ("first two 1 2", [("num", 1), ("num", 2), ("two",), ("first",)]),
    ("second 1", [("num", 1), ("second",)]),
    ("fun x x", [("fun", 3), ("get", 0), ("back",)]),
    ("fun x 7", [("fun", 3), ("num", 7), ("back",)]),
    ("fun x fun y two x y", [("fun", 7), ("fun", 6), ("get", 1), ("get", 0), ("two",), ("back",), ("back",)]),
    ("fun x fun x x", [("fun", 5), ("fun", 4), ("get", 0), ("back",), ("back",)]),
    ("rec f x call f x", [("rec", 5), ("get", 1), ("get", 0), ("call",), ("back",)]),
    ("rec f x fun y two f two x y",
     [("rec", 9), ("fun", 8), ("get", 2), ("get", 1), ("get", 0), ("two",), ("two",), ("back",), ("back",)]),
    ("let x 1 x", [("num", 1), ("name",), ("get", 0), ("unname",)]),
    ("let x 1 let x x x", [("num", 1), ("name",), ("get", 0), ("name",), ("get", 0), ("unname",), ("unname",)]),
    ("let x 1 let y x two x y",
     [("num", 1), ("name",), ("get", 0), ("name",), ("get", 1), ("get", 0), ("two",), ("unname",), ("unname",)]),
    ("if 1 2 3", [("num", 1), ("ifno", 4), ("num", 2), ("to", 5), ("num", 3)]),
    ("plus if 1 2 if 3 4 5 6", [
        ("num", 1), ("ifno", 4), ("num", 2), ("to", 9), ("num", 3), ("ifno", 8), ("num", 4), ("to", 9), ("num", 5), ("num", 6),
        ("op", "plus")]),
    ("ask get 1", [("num", 1), ("ask", "get")]),
    ("past get ask get 1", [("past", "get"), ("num", 1), ("ask", "get"), ("unpast",)]),
    ("ward 1 2", [("ward", 3), ("num", 2), ("back",), ("num", 1), ("unward",)]),
    ("let x 1 ward two x 3 plus x 2", [
        ("num", 1), ("name",), ("ward", 7), ("get", 0), ("num", 2), ("op", "plus"), ("back",), ("get", 0), ("num", 3), ("two",),
        ("unward",), ("unname",)]),
    ("deep 1 x x 0", [("handle", "deep", 1, (), 3, 5), ("get", 0), ("back",), ("num", 1), ("leave",)]),
    ("shallow ask get 1 x 2 1 end get u u", [
        ("handle", "shallow", 1, (("get", "end", 3),), 5, 8), ("num", 2), ("back",), ("get", 0), ("back",), ("num", 1), ("ask", "get"),
        ("leave",)]),
    ("deep 1 x x 3 many get u k call k u quick put v v end stop w 9", [
        ("handle", "deep", 1, (("get", "many", 3), ("put", "quick", 7), ("stop", "end", 9)), 11, 13),
        ("get", 0), ("back",), ("get", 0), ("get", 1), ("call",), ("back",), ("get", 0), ("back",), ("num", 9), ("back",), ("num", 1),
        ("leave",)]),
    # Names of answerers are counted, in T alone.
    ("under h askof h get 1 x x 1 quick get u u", [
        ("handle", "under", 1, (("get", "quick", 3),), 5, 8), ("get", 0), ("back",), ("get", 0), ("back",), ("num", 1),
        ("askof", 0, "get"), ("leave",)]),
    ("let x 1 under h two x askof h get x x x 0", [
        ("num", 1), ("name",), ("handle", "under", 3, (), 5, 10), ("get", 0), ("back",), ("get", 1), ("get", 1), ("askof", 0, "get"),
        ("two",), ("leave",), ("unname",)]),
    ("under h under g fun x pastof h askof g get x x x 0 x 1 0", [
        ("handle", "under", 1, (), 3, 14), ("num", 1), ("back",), ("handle", "under", 4, (), 6, 13), ("get", 0), ("back",), ("fun", 12),
        ("pastof", 2), ("get", 0), ("askof", 1, "get"), ("unpast",), ("back",), ("leave",), ("leave",)]),
    # Hidden by a like one of its own kind alone.
    ("under x fun x askof x get x y 1 0", [
        ("handle", "under", 1, (), 3, 8), ("num", 1), ("back",), ("fun", 7), ("get", 0), ("askof", 1, "get"), ("back",), ("leave",)]),
    ("let x 1 under x x y y 0", [
        ("num", 1), ("name",), ("handle", "under", 3, (), 5, 7), ("get", 0), ("back",), ("get", 1), ("leave",), ("unname",)]),
    ("under h under h askof h get 1 x x 0 x x 0", [
        ("handle", "under", 1, (), 3, 10), ("get", 0), ("back",), ("handle", "under", 4, (), 6, 9), ("get", 0), ("back",), ("num", 1),
        ("askof", 0, "get"), ("leave",), ("leave",)]),
]


def term_of(rows):
    """The TERM of rows, read by calls within calls."""
    made = [0]

    def new():
        made[0] += 1
        return "v" + chr(97 + made[0] // 26) + chr(97 + made[0] % 26)

    def read(at, around, stop):
        """The pair of the TERM from a row on, and the row behind it: stop, or one that ends it."""
        told = []
        while at != stop and rows[at][0] not in ("back", "unname", "to", "unpast", "unward", "leave", "end"):
            term, at = one(at, around, told)
            told.append(term)
        assert len(told) == 1, rows
        return told[0], at

    def closed(at, around, word, stop=None):
        term, end = read(at, around, stop)
        assert rows[end] == word, (rows, at)
        return term, end + 1

    def one(at, around, told):
        word, *rest = rows[at]
        at += 1
        if word == "num":
            return ("num", *rest), at
        if word == "get":
            return ("name", around[-1 - rest[0]]), at
        if word in ("call", "two"):
            second = told.pop()
            return (word, told.pop(), second), at
        if word == "op":
            second = told.pop()
            return ("op", rest[0], told.pop(), second), at
        if word in ("first", "second"):
            return (word, told.pop()), at
        if word == "ask":
            return ("ask", rest[0], told.pop()), at
        if word == "askof":
            return ("askof", around[-1 - rest[0]], rest[1], told.pop()), at
        if word in ("fun", "rec"):
            names = [new() for _ in range(1 if word == "fun" else 2)]
            body, behind = closed(at, around + names, ("back",))
            assert behind == rest[0], rows
            return (word, *names, body), behind
        if word == "name":
            x = new()
            body, behind = closed(at, [*around, x], ("unname",))
            return ("let", x, told.pop(), body), behind
        if word == "ifno":
            chosen, behind = read(at, around, None)
            assert rows[behind][0] == "to" and rest[0] == behind + 1, rows
            other, end = read(behind + 1, around, rows[behind][1])
            assert end == rows[behind][1], rows
            return ("if", told.pop(), chosen, other), end
        if word in ("past", "pastof"):
            body, behind = closed(at, around, ("unpast",))
            return (word, rest[0] if word == "past" else around[-1 - rest[0]], body), behind
        if word == "ward":
            cleaning, behind = closed(at, around, ("back",))
            assert behind == rest[0], rows
            body, behind = closed(behind, around, ("unward",))
            return ("ward", body, cleaning), behind
        return answerer(at, around, *rest)

    def answerer(at, around, way, first, clauses, begin, behind):
        assert first == at, rows
        x = new()
        then, at = closed(at, [*around, x], ("back",))
        told = []
        for deed, how, start in clauses:
            assert start == at, rows
            names = [new() for _ in range(2 if how == "many" else 1)]
            body, at = closed(at, around + names, ("back",))
            told.append((deed, how, names[0], names[1] if how == "many" else "", body))
        assert begin == at, rows
        h = new()
        body, at = closed(at, [*around, h] if way == "under" else around, ("leave",))
        assert at == behind, rows
        if way == "under":
            return ("under", h, body, (x, then), tuple(told)), at
        return ("handle", way, body, (x, then), tuple(told)), at

    term, end = read(0, [], None)
    assert rows[end:] == [("end",)], rows
    return term


class RowsTest(unittest.TestCase):
    def test_by_hand(self):
        for text, rows in ROWS:
            with self.subTest(text):
                self.assertEqual(rows_of(term_in(text)), [*rows, ("end",)])

    def test_kinds_of_what_is_told(self):
        for text, _ in ROWS:
            rows = rows_of(term=term_in(text))
            self.assertIs(type(rows), list)
            self.assertTrue(all(type(row) is tuple for row in rows))
            for row in rows:
                if row[0] == "handle":
                    self.assertTrue(type(row[3]) is tuple and all(type(clause) is tuple for clause in row[3]))

    def test_told_lists_are_the_askers_own(self):
        for text, rows in ROWS:
            told = rows_of(term_in(text))
            told.clear()
            self.assertEqual(rows_of(term_in(text)), [*rows, ("end",)])

    def test_what_stands_for_nothing(self):
        for text, name in (("x", "x"), ("two y x", "x"), ("fun x two x z", "z"), ("two askof h get 1 x", "x"), ("two b two a c", "a"),
                           ("deep u x x 1 end get u k", "k")):
            with self.assertRaises(NoName) as caught:
                rows_of(term_in(text))
            self.assertEqual(caught.exception.name, name)
        for text, name in (("askof h get 1", "h"), ("pastof h 1", "h"), ("two pastof h 1 askof g get 1", "g"),
                           ("under h 1 x askof h get x 0", "h"), ("fun h pastof h h", "h")):
            with self.assertRaises(NoAnswerer) as caught:
                rows_of(term_in(text))
            self.assertEqual(caught.exception.name, name)

    def test_read_again_they_are_like_the_program(self):
        for term in [*TERMS, *[term_in(text) for text, _ in ROWS]]:
            if not names_free(term) and not answerers_free(term):
                self.assertIs(are_like(term_of(rows_of(term)), term), True, term)

    def test_programs_by_chance(self):
        for seed in range(1500):
            maker = Maker(seed)
            term = maker.closed(maker.one_of([4, 6, 8, 9]))
            before = frozen(term)
            self.assertIs(are_like(term_of(rows_of(term)), term), True, term)
            self.assertEqual(frozen(term), before)

    def test_far_deeper_than_what_is_handed_in(self):
        term = ("name", "x")
        for _ in range(1000):
            term = ("two", term, ("num", 1))
        rows = rows_of(("fun", "x", term))
        self.assertEqual(len(rows), 2004)
        self.assertEqual((rows[0], rows[1], rows[-3]), (("fun", 2003), ("get", 0), ("two",)))


if __name__ == "__main__":
    unittest.main()
