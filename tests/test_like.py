"""are_like ([4])."""

import unittest

from handledeeds.terms import are_like
from tests.samples import ONE, TERMS, TWO, X, Y, answerer


def name(word):
    return ("name", word)


LIKE = [
    (("fun", "x", X), ("fun", "y", Y)),
    (("fun", "x", ("fun", "y", ("two", X, Y))), ("fun", "y", ("fun", "x", ("two", Y, X)))),
    (("fun", "x", ("fun", "x", X)), ("fun", "a", ("fun", "b", name("b")))),
    (("rec", "f", "x", ("call", name("f"), X)), ("rec", "x", "f", ("call", X, name("f")))),
    (("let", "x", X, X), ("let", "y", X, Y)),
    (("let", "a", ONE, ("two", name("a"), name("free"))), ("let", "b", ONE, ("two", name("b"), name("free")))),
    (("handle", "deep", X, ("x", X), ()), ("handle", "deep", X, ("y", Y), ())),
    (("handle", "shallow", ONE, ("x", X), ()), ("handle", "shallow", ONE, ("get", name("get")), ())),
    (answerer((("get", "many", "u", "k", ("call", name("k"), name("u"))),)),
     answerer((("get", "many", "k", "u", ("call", name("u"), name("k"))),))),
    (answerer((("get", "quick", "u", "", name("u")), ("put", "end", "v", "", ("two", name("v"), X)))),
     answerer((("get", "quick", "v", "", name("v")), ("put", "end", "u", "", ("two", name("u"), X))))),
    (("under", "h", ("askof", "h", "get", ("pastof", "h", ONE)), ("x", X), (("get", "end", "u", "", name("u")),)),
     ("under", "g", ("askof", "g", "get", ("pastof", "g", ONE)), ("y", Y), (("get", "end", "v", "", name("v")),))),
    (("under", "x", ("fun", "x", ("askof", "x", "get", X)), ("x", X), ()),
     ("under", "h", ("fun", "y", ("askof", "h", "get", Y)), ("z", name("z")), ())),
    (("under", "h", ONE, ("x", ("askof", "h", "get", ONE)), ()), ("under", "g", ONE, ("x", ("askof", "h", "get", ONE)), ())),
    (("under", "g", ("under", "h", ("askof", "g", "get", ("pastof", "h", ONE)), ("x", X), ()), ("x", X), ()),
     ("under", "h", ("under", "g", ("askof", "h", "get", ("pastof", "g", ONE)), ("x", X), ()), ("x", X), ())),
]

UNLIKE = [
    (ONE, TWO), (X, Y), (X, ONE), (ONE, ("two", ONE, ONE)),
    (("ask", "get", ONE), ("ask", "put", ONE)), (("ask", "get", ONE), ("past", "get", ONE)),
    (("askof", "h", "get", ONE), ("askof", "h", "put", ONE)), (("askof", "h", "get", ONE), ("askof", "g", "get", ONE)),
    (("pastof", "h", ONE), ("pastof", "g", ONE)), (("op", "plus", ONE, ONE), ("op", "less", ONE, ONE)),
    (("first", ONE), ("second", ONE)), (("two", ONE, TWO), ("two", TWO, ONE)), (("call", ONE, TWO), ("two", ONE, TWO)),
    (("fun", "x", X), ("rec", "f", "x", X)),
    # one free name otherwise
    (("fun", "x", Y), ("fun", "x", name("z"))), (("fun", "x", ("two", X, Y)), ("fun", "y", ("two", Y, X))),
    # a bound one that meets another binder
    (("fun", "x", ("fun", "y", X)), ("fun", "x", ("fun", "x", X))),
    (("fun", "x", ("fun", "y", X)), ("fun", "x", ("fun", "y", Y))),
    (("fun", "a", ("rec", "f", "x", name("a"))), ("fun", "a", ("rec", "f", "x", X))),
    (("fun", "a", ("rec", "f", "x", name("a"))), ("fun", "a", ("rec", "f", "x", name("f")))),
    (("rec", "f", "x", X), ("rec", "f", "x", name("f"))), (("rec", "f", "x", X), ("rec", "x", "f", X)),
    # a free and a bound one
    (("fun", "x", X), ("fun", "y", X)), (("fun", "y", X), ("fun", "x", X)), (("let", "x", ONE, X), ("let", "y", ONE, X)),
    (("let", "x", X, X), ("let", "y", Y, Y)), (("handle", "deep", X, ("x", X), ()), ("handle", "deep", Y, ("y", Y), ())),
    (("under", "h", ("askof", "h", "get", ONE), ("x", X), ()), ("under", "g", ("askof", "h", "get", ONE), ("x", X), ())),
    (("under", "h", ONE, ("x", ("pastof", "h", ONE)), ()), ("under", "g", ONE, ("x", ("pastof", "g", ONE)), ())),
    # an order of k and x exchanged
    (answerer((("get", "many", "u", "k", name("k")),)), answerer((("get", "many", "k", "u", name("k")),))),
    # answerers otherwise
    (("handle", "deep", ONE, ("x", X), ()), ("handle", "shallow", ONE, ("x", X), ())),
    (("handle", "deep", ONE, ("x", X), ()), ("under", "deeps", ONE, ("x", X), ())),
    (answerer(()), answerer((("get", "end", "u", "", ONE),))),
    (answerer((("get", "end", "u", "", ONE),)), answerer((("put", "end", "u", "", ONE),))),
    (answerer((("get", "end", "u", "", ONE),)), answerer((("get", "quick", "u", "", ONE),))),
    (answerer((("get", "end", "u", "", ONE),)), answerer((("get", "many", "u", "k", ONE),))),
    (("under", "g", ("under", "h", ("pastof", "h", ONE), ("x", X), ()), ("x", X), ()),
     ("under", "g", ("under", "h", ("pastof", "g", ONE), ("x", X), ()), ("x", X), ())),
]


class AreLikeTest(unittest.TestCase):
    def test_like_both_ways(self):
        for term, other in LIKE:
            self.assertIs(are_like(term, other), True, (term, other))
            self.assertIs(are_like(other, term), True, (term, other))

    def test_unlike_both_ways(self):
        for term, other in UNLIKE:
            self.assertIs(are_like(term, other), False, (term, other))
            self.assertIs(are_like(other, term), False, (term, other))

    def test_within_others(self):
        for pairs, told in ((LIKE, True), (UNLIKE, False)):
            for term, other in pairs:
                for around in (lambda t: ("two", ONE, t), lambda t: ("ward", t, ONE),
                               lambda t: ("handle", "deep", ONE, ("free", t), ()),
                               lambda t: answerer((("get", "many", "some", "other", t),))):
                    self.assertIs(are_like(around(term), around(other)), told, (term, other))

    def test_each_is_like_itself_alone(self):
        for at, term in enumerate(TERMS):
            for place, other in enumerate(TERMS):
                self.assertIs(are_like(term, other), at == place, (term, other))

    def test_by_name(self):
        self.assertIs(are_like(term=("fun", "x", X), other=("fun", "y", Y)), True)
        self.assertIs(are_like(other=X, term=Y), False)

    def test_far_deeper_than_what_is_handed_in(self):
        left, right, third = X, Y, X
        for _ in range(1500):
            left, right, third = ("fun", "x", left), ("fun", "y", right), ("fun", "y", third)
        self.assertIs(are_like(left, right), True)
        self.assertIs(are_like(left, third), False)
