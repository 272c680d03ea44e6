"""made.py ([17])."""

import unittest

from handledeeds.machine import told_by
from handledeeds.made import logged, stored, summed, tried
from handledeeds.rows import rows_of
from handledeeds.terms import is_term
from handledeeds.termtext import term_in, text_of
from handledeeds.treerun import told_of
from tests.samples import TERMS, frozen
from tests.test_treerun import ask, clean, done


def name(word):
    return ("name", word)


BODY = term_in("plus ask get 1 x")


class TermsTest(unittest.TestCase):
    def test_stored(self):
        get = ("fun", "s", ("call", ("call", name("k"), name("s")), name("s")))
        put = ("fun", "s", ("call", ("call", name("k"), ("num", 0)), name("v")))
        told = ("call", ("handle", "deep", BODY, ("x", ("fun", "s", name("x"))), (("get", "many", "u", "k", get), ("put", "many", "v", "k", put))),
                ("num", 5))
        self.assertEqual(stored(BODY, ("num", 5)), told)
        self.assertEqual(stored(body=BODY, first=("num", 5)), told)

    def test_summed(self):
        calls = [("call", name("k"), ("num", choice)) for choice in range(4)]
        total = calls[0]
        for many in (1, 2, 3, 4):
            if many > 1:
                total = ("op", "plus", total, calls[many - 1])
            told = ("handle", "deep", BODY, ("x", name("x")), (("choose", "many", "u", "k", total),))
            self.assertEqual(summed(BODY, many), told)
            self.assertEqual(summed(body=BODY, many=many), told)

    def test_tried(self):
        told = ("handle", "deep", BODY, ("x", name("x")), (("stop", "end", "u", "", ("num", 5)),))
        self.assertEqual(tried(BODY, ("num", 5)), told)
        self.assertEqual(tried(body=BODY, other=("num", 5)), told)
        for other, x in ((name("u"), "ua"), (name("ua"), "u"), (term_in("two u ua"), "ub"), (term_in("fun u u"), "u"),
                         (term_in("two u fun ua ua"), "ua"), (term_in("askof u get 1"), "u"), (term_in("let u u 1"), "ua")):
            self.assertEqual(tried(BODY, other)[4], (("stop", "end", x, "", other),))
        other = name("u")
        for letter in "abcdefghijklmnopqrstuvwxy":
            other = ("two", other, name("u" + letter))
        self.assertEqual(tried(BODY, other)[4], (("stop", "end", "uz", "", other),))

    def test_logged(self):
        told = ("handle", "deep", BODY, ("x", ("two", name("x"), ("num", 0))), (("say", "quick", "x", "", ("ask", "say", name("x"))),))
        self.assertEqual(logged(BODY), told)
        self.assertEqual(logged(body=BODY), told)

    def test_they_are_terms_and_what_is_handed_in_stays(self):
        for term in TERMS:
            before = frozen(term)
            for made in (stored(term, ("num", 1)), stored(("num", 1), term), summed(term, 4), tried(term, ("num", 1)), tried(("num", 1), term),
                         logged(term)):
                self.assertIs(is_term(made), True)
                self.assertEqual(text_of(term_in(text_of(made))), text_of(made))
            self.assertEqual(frozen(term), before)


class RunTest(unittest.TestCase):
    def told(self, term, answers=()):
        told = told_of(term, answers=answers)
        self.assertEqual(told_by(rows_of(term), answers=answers), told)
        return told

    def test_stores(self):
        body = term_in("let a ask get 0 let b ask put plus a 1 two a two b ask get 0")
        self.assertEqual(self.told(stored(body, ("num", 5))), (done((5, (0, 6))), [ask("get", 0), ask("put", 6), ask("get", 0)]))
        # One within the other: the inner one answers, but for what's first in it.
        inner = stored(body, term_in("plus 100 ask get 0"))
        self.assertEqual(self.told(stored(inner, ("num", 5)))[0], done((105, (0, 106))))
        outer = ("op", "plus", ("first", stored(body, ("num", 7))), term_in("ask get 0"))
        self.assertEqual(self.told(stored(outer, ("num", 5)))[0], done(12))

    def test_choices(self):
        for many, told in ((1, 0), (2, 10), (3, 30), (4, 60)):
            self.assertEqual(self.told(summed(term_in("times 10 ask choose 0"), many))[0], done(told))
        two = term_in("plus times 10 ask choose 0 ask choose 1")
        self.assertEqual(self.told(summed(two, 2)), (done(22), [ask("choose", 0), ask("choose", 1), ask("choose", 1)]))

    def test_stores_within_choices_and_around_them(self):
        body = term_in("let c ask choose 0 let n ask get 0 let y ask put plus n plus c 1 ask get 0")
        # Within: each choice has a store of its own.
        self.assertEqual(self.told(summed(stored(body, ("num", 5)), 2))[0], done(6 + 7))
        # Around: what the first choice put is there for the second one.
        self.assertEqual(self.told(stored(summed(body, 2), ("num", 5)))[0], done(6 + 8))

    def test_ends(self):
        self.assertEqual(self.told(tried(term_in("plus 1 ask stop 2"), ("num", 9))), (done(9), [ask("stop", 2)]))
        self.assertEqual(self.told(tried(term_in("plus 1 2"), ("num", 9))), (done(3), []))
        self.assertEqual(self.told(tried(term_in("ward ask stop 2 7"), term_in("ask out 1")), answers=(4,)),
                         (done(4), [ask("stop", 2), clean(7), ask("out", 1)]))
        # What's put ahead of the end stands in a store around, not in one within.
        body = term_in("let y ask put 8 ask stop 0")
        self.assertEqual(self.told(stored(tried(body, term_in("ask get 0")), ("num", 5)))[0], done(8))
        self.assertEqual(self.told(stored(tried(stored(body, ("num", 1)), term_in("ask get 0")), ("num", 5)))[0], done(5))

    def test_logs(self):
        body = term_in("plus ask say 1 ask say 2")
        self.assertEqual(self.told(logged(body), answers=(10, 20)), (done((30, 0)), [ask("say", 1), ask("say", 1), ask("say", 2), ask("say", 2)]))
        self.assertEqual(self.told(logged(logged(term_in("ask say 1"))), answers=(3,)), (done(((3, 0), 0)), [ask("say", 1)] * 3))


if __name__ == "__main__":
    unittest.main()
