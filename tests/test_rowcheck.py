"""rowcheck.py ([14])."""

import unittest

from handledeeds.rowcheck import are_rows, are_rows_of, term_of
from handledeeds.rows import rows_of
from handledeeds.terms import answerers_free, are_like, is_term, names_free
from handledeeds.termtext import term_in, text_of
from tests.chance import Maker
from tests.samples import frozen
from tests.test_rows import ROWS
from tests.test_rows import term_of as slow_term_of

END = ("end",)

# A text, and the text of what its rows are told to be.
CALLED = [
    ("7", "7"), ("two 1 first 2", "two 1 first 2"), ("fun x x", "fun va va"), ("fun x fun y two x y", "fun va fun vb two va vb"),
    ("rec f x two f x", "rec va vb two va vb"), ("let x 1 let y x two x y", "let va 1 let vb va two va vb"),
    ("two fun x x fun y y", "two fun va va fun va va"), ("let x let y 1 y x", "let va let va 1 va va"),
    ("if 1 fun x x fun x x", "if 1 fun va va fun va va"), ("ward fun x x let y 1 y", "ward fun va va let va 1 va"),
    ("deep let y 1 y x x 3 many get u k call k u quick put v v end stop w w",
     "deep let va 1 va va va 3 many get va vb call vb va quick put va va end stop va va"),
    ("fun z shallow z x two x z 1 many get u k call k u", "fun va shallow va vb two vb va 1 many get vb vc call vc vb"),
    # Names of answerers are counted, in T alone.
    ("under h fun x askof h get x y y 1 quick get u u", "under va fun vb askof va get vb va va 1 quick get va va"),
    ("under h under g fun x pastof h askof g get x y y 0 z z 0", "under va under vb fun vc pastof va askof vb get vc vb vb 0 va va 0"),
    ("past get past put ask get 1", "past get past put ask get 1"),
]


def nest(depth, innermost=("num", 1)):
    """A program in which so many names stand one within another."""
    for _ in range(depth):
        innermost = ("fun", "x", innermost)
    return innermost


class TermOfTest(unittest.TestCase):
    def test_names_by_how_many_stand_around(self):
        for text, told in CALLED:
            self.assertEqual(text_of(term_of(rows_of(term_in(text)))), told)

    def test_rows_by_hand(self):
        for text, rows in ROWS:
            term = term_of([*rows, END])
            self.assertTrue(are_like(term, term_in(text)), text)
            self.assertEqual(rows_of(term), [*rows, END])

    def test_52_names_and_53(self):
        names = ["v" + chr(97 + at) for at in range(26)] + ["w" + chr(97 + at) for at in range(26)]
        term = term_of(rows_of(nest(52, ("name", "x"))))
        for name in names:
            self.assertEqual(term[:2], ("fun", name))
            term = term[2]
        self.assertEqual(term, ("name", "wz"))
        self.assertIsNone(term_of(rows_of(nest(53))))
        self.assertIs(are_rows(rows_of(nest(52))), True)
        self.assertIs(are_rows(rows_of(nest(53))), False)
        self.assertIs(are_rows_of(nest(53), rows_of(nest(53))), True)
        # A rec has two, a clause one or two, an answerer counts, too.
        rec = ("rec", "f", "x", ("num", 1))
        self.assertIsNotNone(term_of(rows_of(nest(50, rec))))
        self.assertIsNone(term_of(rows_of(nest(51, rec))))
        many = term_in("deep 1 x 1 1 many get u k 1")
        self.assertEqual(term_of(rows_of(nest(50, many)))[0], "fun")
        self.assertIsNone(term_of(rows_of(nest(51, many))))
        quick = term_in("deep 1 x x 1 quick get u u")
        self.assertIsNotNone(term_of(rows_of(nest(51, quick))))
        self.assertIsNone(term_of(rows_of(nest(52, quick))))
        under = term_in("under h 1 x x 0")
        self.assertIsNotNone(term_of(rows_of(nest(51, under))))
        self.assertIsNone(term_of(rows_of(nest(52, under))))
        # So many beside one another are told.
        term = ("num", 1)
        for _ in range(60):
            term = ("two", term, ("fun", "x", ("name", "x")))
        self.assertIsNotNone(term_of(rows_of(term)))

    def test_far_larger_and_deeper(self):
        for word in ("two", "call"):
            term = ("num", 1)
            for _ in range(3000):
                term = (word, term, ("num", 2))
            self.assertEqual(text_of(term_of(rows_of(term))), text_of(term))
            self.assertIs(are_rows_of(term, rows_of(term)), True)
        term = ("num", 1)
        for _ in range(2000):
            term = ("if", ("num", 0), ("num", 1), term)
        self.assertEqual(text_of(term_of(rows_of(term))), text_of(term))
        for _ in range(1000):
            term = ("ward", ("past", "get", term), ("num", 1))
        self.assertEqual(text_of(term_of(rows_of(term))), text_of(term))

    def test_things_of_any_make(self):
        for thing in (None, True, 7, "end", (), [], [[]], [()], [None], [7], ["end"], [END, END], [END], [("end", 1)], (("num", 7), END),
                      [("num", 7)], [("num", 7), END, END], [("num", 7), END, ("num", 7)], [["num", 7], END], [("num", 7), ["end"]],
                      [("num", True), END], [("num", -1), END], [("num", 997), END], [("num", "7"), END], [("num",), END],
                      [("num", 7, 7), END], [("word",), END], [(7,), END], [((),), END], [([],), END], [("num", None), END],
                      [("num", 7), ("num", 8), END], [("num", 7), ("back",), END], [("back",), END], [("call",), END],
                      [("num", 1), ("call",), END], [("get", 0), END], [("num", 1), ("op", "more"), END]):
            before = frozen(thing)
            self.assertIsNone(term_of(thing=thing), thing)
            self.assertIs(are_rows(thing=thing), False, thing)
            self.assertIs(are_rows_of(("num", 7), thing), False, thing)
            self.assertEqual(frozen(thing), before)
        self.assertEqual(term_of([("num", 7), END]), ("num", 7))


# Rows that are none, by what they'd be with one thing otherwise.
WRONG = [
    ("k of a name", [("fun", 3), ("get", 1), ("back",), END]),
    ("k below nought", [("fun", 3), ("get", -1), ("back",), END]),
    ("k a truth", [("fun", 3), ("get", False), ("back",), END]),
    ("a place one off", [("fun", 4), ("get", 0), ("back",), END]),
    ("a place one off", [("fun", 2), ("get", 0), ("back",), END]),
    ("a place that's a truth", [("fun", True), ("get", 0), ("back",), END]),
    ("a part twice", [("fun", 4), ("get", 0), ("get", 0), ("back",), END]),
    ("no part", [("fun", 2), ("back",), END]),
    ("another end", [("fun", 3), ("get", 0), ("unname",), END]),
    ("no end of a part", [("fun", 3), ("get", 0), END]),
    ("nothing to name", [("name",), ("get", 0), ("unname",), END]),
    ("what's outside isn't named", [("num", 1), ("fun", 5), ("name",), ("get", 0), ("unname",), ("back",), END]),
    ("joins over an end", [("num", 1), ("fun", 4), ("call",), ("back",), END]),
    ("ifno one off", [("num", 1), ("ifno", 3), ("num", 2), ("to", 5), ("num", 3), END]),
    ("ifno one off", [("num", 1), ("ifno", 5), ("num", 2), ("to", 5), ("num", 3), END]),
    ("to one off", [("num", 1), ("ifno", 4), ("num", 2), ("to", 4), ("num", 3), END]),
    ("to one off", [("num", 1), ("ifno", 4), ("num", 2), ("to", 6), ("num", 3), END]),
    ("to behind the end", [("num", 1), ("ifno", 4), ("num", 2), ("to", 9), ("num", 3), END]),
    ("to ahead", [("num", 1), ("ifno", 4), ("num", 2), ("to", 0), ("num", 3), END]),
    ("nothing asked", [("ifno", 3), ("num", 2), ("to", 4), ("num", 3), END]),
    ("a deed that's none", [("num", 1), ("ask", "number"), END]),
    ("a deed that's none", [("past", "Get"), ("num", 1), ("unpast",), END]),
    ("an answerer that isn't around", [("num", 1), ("askof", 0, "get"), END]),
    ("a name for an answerer", [("fun", 4), ("num", 1), ("askof", 0, "get"), ("back",), END]),
    ("a name for an answerer", [("fun", 5), ("pastof", 0), ("num", 1), ("unpast",), ("back",), END]),
    ("an answerer for a name", [("handle", "under", 1, (), 3, 5), ("get", 0), ("back",), ("get", 0), ("leave",), END]),
    ("h in U", [("handle", "under", 1, (), 4, 6), ("get", 0), ("askof", 0, "get"), ("back",), ("num", 1), ("leave",), END]),
    ("first one off", [("handle", "deep", 2, (), 3, 5), ("get", 0), ("back",), ("num", 1), ("leave",), END]),
    ("at one off", [("handle", "deep", 1, (), 4, 5), ("get", 0), ("back",), ("num", 1), ("leave",), END]),
    ("behind one off", [("handle", "deep", 1, (), 3, 6), ("get", 0), ("back",), ("num", 1), ("leave",), END]),
    ("another way", [("handle", "wide", 1, (), 3, 5), ("get", 0), ("back",), ("num", 1), ("leave",), END]),
    ("clauses a list", [("handle", "deep", 1, [], 3, 5), ("get", 0), ("back",), ("num", 1), ("leave",), END]),
    ("no clause", [("handle", "deep", 1, (("get", "end", 3),), 3, 5), ("get", 0), ("back",), ("num", 1), ("leave",), END]),
    ("a ward one off", [("ward", 4), ("num", 1), ("back",), ("num", 2), ("unward",), END]),
    ("a ward left otherwise", [("ward", 3), ("num", 1), ("back",), ("num", 2), ("leave",), END]),
    ("a ward of one part", [("ward", 3), ("num", 1), ("back",), ("unward",), END]),
    ("unpast of nothing", [("num", 1), ("unpast",), END]),
]


def with_clauses(*clauses):
    """Rows of an answerer with such clauses, each V one row; the way of a shallow one."""
    rows = [("get", 0), ("back",)]
    told = []
    for deed, how in clauses:
        told.append((deed, how, len(rows) + 1))
        rows.extend([("get", 0), ("back",)])
    at = len(rows) + 1
    return [("handle", "deep", 1, tuple(told), at, at + 2), *rows, ("num", 1), ("leave",), END]


class WrongRowsTest(unittest.TestCase):
    def test_one_thing_otherwise(self):
        for why, rows in WRONG:
            self.assertIsNone(term_of(rows), (why, rows))
            self.assertIs(are_rows(rows), False)

    def test_clauses(self):
        self.assertIsNotNone(term_of(with_clauses(("a", "end"), ("b", "many"), ("c", "quick"), ("d", "end"))))
        for clauses in ([("b", "end"), ("a", "end")], [("a", "end"), ("a", "end")], [("a", "more")], [("a", ["end"])], [("A", "end")],
                        [("a", "end"), ("b", "many"), ("c", "quick"), ("d", "end"), ("e", "end")]):
            self.assertIsNone(term_of(with_clauses(*clauses)), clauses)
        rows = with_clauses(("a", "quick"))
        self.assertIsNone(term_of([("handle", "shallow", *rows[0][2:]), *rows[1:]]))
        rows = with_clauses(("a", "many"))
        self.assertIsNotNone(term_of([("handle", "shallow", *rows[0][2:]), *rows[1:]]))
        for clause in (["a", "end", 3], ("a", "end"), ("a", "end", 3, 3), ("a", "end", 4), ("a", "end", True), ("a", "end", "3"), None, 7):
            rows = with_clauses(("a", "end"))
            rows[0] = (*rows[0][:3], (clause,), *rows[0][4:])
            self.assertIsNone(term_of(rows), clause)
        self.assertIsNone(term_of([(*rows[0][:3], rows[0][3], True, *rows[0][5:]), *rows[1:]]))

    def test_each_row_out_twice_and_exchanged(self):
        for text, rows in ROWS:
            rows = [*rows, END]
            for at in range(len(rows)):
                self.check([*rows[:at], *rows[at + 1:]])
                self.check([*rows[:at], rows[at], *rows[at:]])
                self.check(rows[:at])
                self.check([*rows[:at], list(rows[at]), *rows[at + 1:]], False)
                for other in range(at):
                    exchanged = list(rows)
                    exchanged[at], exchanged[other] = rows[other], rows[at]
                    self.check(exchanged)
            self.check([*rows, END], False)
            self.check([*rows, rows[0]], False)
            self.check(tuple(rows), False)

    def test_each_field_otherwise(self):
        words = ["get", "two", "call", "first", "back", "fun", "rec", "unname", "unpast", "many", "end", "deep", "under", "shallow"]
        for text, rows in ROWS:
            rows = [*rows, END]
            for at, row in enumerate(rows):
                for place, field in enumerate(row):
                    others = [field - 1, field + 1, bool(field)] if type(field) is int else words if type(field) is str else [(), list(field)]
                    for other in others:
                        self.check([*rows[:at], (*row[:place], other, *row[place + 1:]), *rows[at + 1:]])

    def check(self, rows, may=True):
        """As the rows read by calls within calls tell it, where they are rows at all."""
        term = term_of(rows)
        self.assertIs(are_rows(rows), term is not None)
        if term is not None:
            self.assertTrue(may, rows)
            self.assertEqual(repr(rows_of(term)), repr(rows))
            return
        try:
            told = slow_term_of(rows)
        except (AssertionError, IndexError, KeyError, TypeError, ValueError):
            return
        # Read so they'd be rows of something, but not of a TERM.
        if is_term(told) and not names_free(told) and not answerers_free(told):
            self.assertNotEqual(repr(rows_of(told)), repr(rows))


class RowsOfTest(unittest.TestCase):
    def test_just_its_rows(self):
        terms = [term_in(text) for text, _ in ROWS]
        for at, term in enumerate(terms):
            rows = rows_of(term)
            self.assertIs(are_rows_of(term=term, thing=rows), True)
            for other in range(len(terms)):
                self.assertIs(are_rows_of(terms[other], rows), are_like(term, terms[other]), (at, other))
            self.assertIs(are_rows_of(term, tuple(rows)), False)
            self.assertIs(are_rows_of(term, rows[:-1]), False)
            self.assertIs(are_rows_of(term, [*rows, END]), False)
            self.assertIs(are_rows_of(term, [list(rows[0]), *rows[1:]]), False)

    def test_truths_and_lists_within(self):
        self.assertIs(are_rows_of(("num", 1), [("num", True), END]), False)
        self.assertIs(are_rows_of(("num", 0), [("num", False), END]), False)
        rows = rows_of(term_in("deep 1 x x 1 end get u u"))
        self.assertIs(are_rows_of(term_in("deep 1 x x 1 end get u u"), rows), True)
        self.assertIs(are_rows_of(term_in("deep 1 x x 1 end get u u"), [(*rows[0][:3], [rows[0][3][0]], *rows[0][4:]), *rows[1:]]), False)
        self.assertIs(are_rows_of(term_in("deep 1 x x 1 end get u u"), [(*rows[0][:3], (list(rows[0][3][0]),), *rows[0][4:]), *rows[1:]]), False)

    def test_a_program_of_something_free_has_no_rows(self):
        self.assertIs(are_rows_of(("name", "x"), [("get", 0), END]), False)
        self.assertIs(are_rows_of(term_in("askof h get 1"), [("num", 1), ("askof", 0, "get"), END]), False)

    def test_programs_by_chance(self):
        for seed in range(800):
            maker = Maker(seed)
            term = maker.closed(maker.one_of([4, 6, 8, 9]))
            rows = rows_of(term)
            before = frozen(rows)
            told = term_of(rows)
            self.assertTrue(are_like(told, term))
            self.assertEqual(rows_of(told), rows)
            self.assertIs(are_rows_of(term, rows), True)
            self.assertEqual(frozen(rows), before)


if __name__ == "__main__":
    unittest.main()
