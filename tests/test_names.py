"""names_free, answerers_free, deeds_of, is_value ([4])."""

import unittest

from handledeeds.terms import answerers_free, deeds_of, is_value, names_free
from tests.samples import DEEP, ONE, SHALLOW, TERMS, TWO, UNDER, X, Y, answerer, nested


def pair_of(*terms):
    """All these, in twos."""
    told = terms[-1]
    for term in reversed(terms[:-1]):
        told = ("two", term, told)
    return told


ABX = pair_of(("name", "a"), ("name", "b"), X, ("name", "f"), ("name", "k"))

ASKED = pair_of(("askof", "h", "get", ONE), ("pastof", "g", ONE))


class NamesFreeTest(unittest.TestCase):
    def free(self, term, names):
        self.assertEqual(names_free(term), names, term)

    def test_a_name(self):
        self.free(ONE, [])
        self.free(X, ["x"])
        self.free(ABX, ["a", "b", "f", "k", "x"])

    def test_rising_and_nothing_twice(self):
        self.free(pair_of(("name", "b"), ("name", "ab"), ("name", "a"), ("name", "b"), ("name", "a")), ["a", "ab", "b"])

    def test_fun_and_rec(self):
        self.free(("fun", "x", ABX), ["a", "b", "f", "k"])
        self.free(("rec", "f", "x", ABX), ["a", "b", "k"])
        self.free(("two", ("fun", "x", X), X), ["x"])

    def test_let(self):
        self.free(("let", "x", ONE, ABX), ["a", "b", "f", "k"])
        self.free(("let", "x", X, X), ["x"])
        self.free(("let", "x", X, ONE), ["x"])

    def test_an_answerers_then(self):
        for term in (("handle", "deep", ONE, ("x", ABX), ()), ("handle", "shallow", ONE, ("x", ABX), ()),
                     ("under", "h", ONE, ("x", ABX), ())):
            self.free(term, ["a", "b", "f", "k"])
        self.free(("handle", "deep", X, ("x", X), ()), ["x"])
        self.free(("under", "h", X, ("x", ONE), ()), ["x"])

    def test_clauses(self):
        self.free(answerer((("get", "many", "x", "k", ABX),)), ["a", "b", "f"])
        self.free(answerer((("get", "quick", "x", "", ABX),)), ["a", "b", "f", "k"])
        self.free(answerer((("get", "end", "x", "", ABX),)), ["a", "b", "f", "k"])
        self.free(("under", "h", ONE, ("x", ONE), (("get", "many", "a", "b", ABX),)), ["f", "k", "x"])

    def test_a_clause_hides_nothing_of_another_nor_of_then(self):
        self.free(answerer((("get", "many", "a", "k", ONE), ("put", "end", "b", "", ABX))), ["a", "f", "k", "x"])
        self.free(("handle", "deep", ONE, ("y", ABX), (("get", "many", "x", "k", ONE),)), ["a", "b", "f", "k", "x"])
        self.free(("handle", "deep", ("name", "u"), ("x", ("name", "u")), (("get", "end", "u", "", ONE),)), ["u"])
        self.free(("handle", "deep", ONE, ("y", ONE), (("get", "end", "u", "", Y),)), ["y"])

    def test_names_of_answerers_hide_none(self):
        self.free(("under", "x", X, ("y", X), (("get", "end", "u", "", X),)), ["x"])
        self.free(("askof", "x", "get", ONE), [])
        self.free(("pastof", "x", ONE), [])
        self.free(("ask", "x", ONE), [])

    def test_samples(self):
        self.free(DEEP, ["x"])
        self.free(SHALLOW, ["y"])
        self.free(UNDER, ["x"])


class AnswerersFreeTest(unittest.TestCase):
    def free(self, term, names):
        self.assertEqual(answerers_free(term), names, term)

    def test_of_askof_and_pastof(self):
        self.free(ONE, [])
        self.free(ASKED, ["g", "h"])
        self.free(pair_of(ASKED, ASKED, ("askof", "a", "get", ASKED)), ["a", "g", "h"])
        self.free(("pastof", "h", ("askof", "g", "get", ONE)), ["g", "h"])

    def test_under_hides_in_t_alone(self):
        self.free(("under", "h", ASKED, ("x", ONE), ()), ["g"])
        self.free(("under", "g", ASKED, ("x", ONE), ()), ["h"])
        self.free(("under", "h", ONE, ("x", ASKED), ()), ["g", "h"])
        self.free(("under", "h", ONE, ("x", ONE), (("get", "end", "u", "", ASKED),)), ["g", "h"])
        self.free(("under", "h", ONE, ("x", ONE), (("get", "many", "u", "k", ASKED),)), ["g", "h"])
        self.free(("under", "h", ("under", "g", ASKED, ("x", ASKED), ()), ("x", ONE), ()), ["g"])

    def test_names_hide_none(self):
        for term in (("fun", "h", ASKED), ("rec", "h", "g", ASKED), ("let", "h", ONE, ASKED),
                     ("handle", "deep", ONE, ("h", ASKED), ()), ("under", "x", ONE, ("h", ASKED), ()),
                     answerer((("get", "many", "h", "g", ASKED),))):
            self.free(term, ["g", "h"])

    def test_names_and_deeds_are_none(self):
        self.free(pair_of(X, ("ask", "get", ONE), ("past", "get", ONE)), [])


class DeedsTest(unittest.TestCase):
    def test_of_ask_alone(self):
        self.assertEqual(deeds_of(ONE), [])
        self.assertEqual(deeds_of(("ask", "get", ONE)), ["get"])
        self.assertEqual(deeds_of(("askof", "h", "get", ONE)), [])
        self.assertEqual(deeds_of(("past", "get", ONE)), [])
        self.assertEqual(deeds_of(answerer((("get", "end", "x", "", ONE),))), [])

    def test_anywhere(self):
        asks = [("ask", deed, ONE) for deed in ("put", "get", "a", "get", "z")]
        self.assertEqual(deeds_of(pair_of(*asks)), ["a", "get", "put", "z"])
        self.assertEqual(deeds_of(("ask", "put", ("ask", "get", ONE))), ["get", "put"])
        self.assertEqual(deeds_of(("fun", "x", asks[0])), ["put"])
        self.assertEqual(deeds_of(("askof", "h", "get", ("past", "put", ("ask", "say", ONE)))), ["say"])
        self.assertEqual(deeds_of(answerer((("get", "end", "x", "", ("ask", "get", ONE)),))), ["get"])
        self.assertEqual(deeds_of(("handle", "deep", ONE, ("x", ("ask", "b", ONE)), ())), ["b"])


class IsValueTest(unittest.TestCase):
    def test_values(self):
        for term in (ONE, ("fun", "x", X), ("rec", "f", "x", ("ask", "get", ONE)), ("two", ONE, TWO),
                     ("two", ("two", ONE, ("fun", "x", Y)), ("rec", "f", "x", X))):
            self.assertIs(is_value(term), True, term)

    def test_nothing_else(self):
        for term in TERMS:
            if term[0] not in ("num", "fun", "rec", "two"):
                self.assertIs(is_value(term), False, term)
                self.assertIs(is_value(("two", ONE, term)), False, term)
                self.assertIs(is_value(("two", term, ONE)), False, term)
        self.assertIs(is_value(("two", ("two", ONE, X), ONE)), False)


class ToldTest(unittest.TestCase):
    def test_by_name(self):
        term = ("two", X, ("askof", "h", "get", ("ask", "put", ONE)))
        self.assertEqual(names_free(term=term), ["x"])
        self.assertEqual(answerers_free(term=term), ["h"])
        self.assertEqual(deeds_of(term=term), ["put"])
        self.assertIs(is_value(term=ONE), True)

    def test_told_lists_are_the_askers_own(self):
        term = ("two", X, ("askof", "h", "get", ("ask", "put", ONE)))
        for ask in (names_free, answerers_free, deeds_of):
            told = ask(term)
            again = list(told)
            told.append("more")
            self.assertEqual(ask(term), again)
            self.assertIsNot(ask(term), ask(term))

    def test_far_deeper_than_what_is_handed_in(self):
        term = ("ask", "get", ("askof", "h", "get", X))
        for _ in range(1500):
            term = ("two", nested(2), ("fun", "y", term))
        self.assertEqual((names_free(term), answerers_free(term), deeds_of(term)), (["x"], ["h"], ["get"]))

    def test_a_value_far_deeper(self):
        value, other = ("fun", "x", X), X
        for _ in range(1500):
            value, other = ("two", ONE, value), ("two", ONE, other)
        self.assertIs(is_value(value), True)
        self.assertIs(is_value(other), False)
