"""is_term ([4], within the bounds of [3])."""

import unittest

from handledeeds.terms import is_term
from tests.samples import DEEP, GET_QUICK, ONE, PUT_MANY, SHALLOW, STOP_END, TERMS, UNDER, X
from tests.samples import answerer, ends, nested, spread

NO_NAMES = ["", "fun", "number", "abcdefg", "A", "a1", "a ", "\u00e9", None, 7, True, ("a",), ["a"]]

# Each place in which a NAME stands, as a function that puts one there.
NAMED = [
    lambda name: ("name", name),
    lambda name: ("fun", name, ONE),
    lambda name: ("rec", name, "x", ONE),
    lambda name: ("rec", "f", name, ONE),
    lambda name: ("let", name, ONE, ONE),
    lambda name: ("ask", name, ONE),
    lambda name: ("askof", name, "get", ONE),
    lambda name: ("askof", "h", name, ONE),
    lambda name: ("past", name, ONE),
    lambda name: ("pastof", name, ONE),
    lambda name: ("handle", "deep", ONE, (name, ONE), ()),
    lambda name: ("under", name, ONE, ("x", ONE), ()),
    lambda name: ("under", "h", ONE, (name, ONE), ()),
    lambda name: answerer(((name, "end", "x", "", ONE),)),
    lambda name: answerer((("get", "end", name, "", ONE),)),
    lambda name: answerer((("get", "many", name, "k", ONE),)),
    lambda name: answerer((("get", "many", "x", name, ONE),)),
]


class Anything:
    """What is equal to nothing, and can't be asked."""

    __hash__ = None

    def __eq__(self, other):
        raise ValueError


def no_tuples():
    deep_list = []
    deep_tuple = ()
    for _ in range(3000):
        deep_list = [deep_list]
        deep_tuple = (deep_tuple,)
    round_list = ["two"]
    round_list.append(round_list)
    return [
        None, True, False, 0, 1, -1, 997, 10 ** 50, "", "num", "x", [], ["num", 1], [["num", 1]], {}, {"num": 1},
        b"num", 1.5, Anything(), round_list, deep_list, deep_tuple, set(), int, is_term,
    ]


def with_part(term, at, thing):
    return (*term[:at], thing, *term[at + 1:])


class IsTermTest(unittest.TestCase):
    def yes(self, thing):
        self.assertIs(is_term(thing), True, thing)

    def no(self, thing):
        # What is told of a failure may be too deep to be shown, and is shown then only.
        self.assertIs(is_term(thing), False)

    def test_each_form(self):
        for term in TERMS:
            self.yes(term)

    def test_another_word(self):
        for term in TERMS:
            for word in ("", "Num", "deep", "plus", "shallow", "nums", "ifno", None, 7, True, (), [], ["num"], ONE):
                self.no((word, *term[1:]))

    def test_the_word_of_a_form_of_as_many_parts(self):
        self.no(("call", "x", ONE))
        self.no(("fun", ONE, ONE))
        self.no(("if", "x", ONE, ONE))
        self.no(("let", ONE, ONE, ONE))
        self.no(("num", "x"))
        self.no(("name", 7))

    def test_a_part_more_or_fewer(self):
        for term in TERMS:
            self.no((*term, ONE))
            self.no((*term, ()))
            self.no(term[:-1])
            self.no(term[:1])
        self.no(())

    def test_a_list_in_place_of_a_tuple(self):
        for term in TERMS:
            self.no(list(term))
        for at in (1, 2):
            self.no(("two", *[list(ONE) if at == k else ONE for k in (1, 2)]))
        self.no(with_part(DEEP, 3, ["x", X]))
        self.no(with_part(UNDER, 3, ["x", X]))
        self.no(with_part(DEEP, 4, []))
        self.no(with_part(DEEP, 4, list(DEEP[4])))
        self.no(with_part(UNDER, 4, list(UNDER[4])))
        self.no(answerer((list(GET_QUICK),)))
        self.no(answerer((with_part(GET_QUICK, 4, list(X)),)))

    def test_numbers(self):
        for n in (0, 1, 996):
            self.yes(("num", n))
        for n in (997, -1, 10 ** 30, True, False, None, "1", 1.0, (1,), [1]):
            self.no(("num", n))

    def test_within_each_term_is_looked_at(self):
        for bad in (("num", 997), ("num", True), ("nums", 1), None, "x", 7, [], (), ["num", 1]):
            for at in (1, 2, 3):
                self.no(with_part(("if", ONE, ONE, ONE), at, bad))
            for word in ("first", "second"):
                self.no((word, bad))
            for term in (("fun", "x", bad), ("rec", "f", "x", bad), ("ask", "get", bad), ("askof", "h", "get", bad),
                         ("past", "get", bad), ("pastof", "h", bad), ("let", "x", bad, ONE), ("let", "x", ONE, bad),
                         ("op", "plus", bad, ONE), ("op", "plus", ONE, bad), ("ward", bad, ONE), ("ward", ONE, bad),
                         ("call", bad, ONE), ("call", ONE, bad), ("two", bad, ONE), ("two", ONE, bad)):
                self.no(term)
            for term in (DEEP, SHALLOW, UNDER):
                self.no(with_part(term, 2, bad))
                self.no(with_part(term, 3, ("x", bad)))
                self.no(with_part(term, 4, (with_part(term[4][0], 4, bad), *term[4][1:])))

    def test_names(self):
        for put in NAMED:
            self.yes(put("abcdef"))
            for name in NO_NAMES:
                self.no(put(name))

    def test_names_may_be_called_alike_where_they_stand_apart(self):
        self.yes(("askof", "get", "get", ONE))
        self.yes(answerer((("x", "many", "x", "k", ONE),)))
        self.yes(answerer((("k", "many", "x", "k", ONE),)))
        self.yes(("under", "x", X, ("x", X), (("x", "end", "x", "", X),)))

    def test_rec_of_f_like_x(self):
        self.no(("rec", "x", "x", ONE))
        self.yes(("rec", "x", "xx", ONE))

    def test_ops(self):
        for word in ("plus", "less", "times", "below"):
            self.yes(("op", word, ONE, ONE))
        for word in ("", "minus", "if", "two", "Plus", None, 7, ("plus",), ["plus"], ("plus", "less")):
            self.no(("op", word, ONE, ONE))

    def test_ways(self):
        for way in ("", "under", "Deep", "many", None, True, 7, ("deep",), ["deep"]):
            self.no(("handle", way, ONE, ("x", X), ()))
            self.no(("handle", way, ONE, ("x", X), (GET_QUICK,)))

    def test_then(self):
        for then in ((), ("x",), ("x", X, X), X, "x", "xy", None, 7, (X, "x"), ("x", "x")):
            self.no(with_part(DEEP, 3, then))
            self.no(with_part(UNDER, 3, then))

    def test_how_a_clause_goes_on(self):
        for how in ("", "once", "Many", "deep", None, True, 7, ("many",), ["end"]):
            for k in ("", "k"):
                self.no(answerer((("get", how, "x", k, ONE),)))

    def test_many_with_k_like_x(self):
        self.no(answerer((("get", "many", "x", "x", ONE),)))

    def test_many_needs_k(self):
        for k in ("", None, "fun", "abcdefg", ("k",)):
            self.no(answerer((("get", "many", "x", k, ONE),)))

    def test_quick_and_end_have_no_k(self):
        for how in ("quick", "end"):
            self.yes(answerer((("get", how, "x", "", ONE),)))
            for k in ("k", "x", " ", None, False, 0, (), []):
                self.no(answerer((("get", how, "x", k, ONE),)))

    def test_quick_in_a_shallow_one(self):
        self.no(answerer((GET_QUICK,), "shallow"))
        self.no(answerer((GET_QUICK, PUT_MANY), "shallow"))
        self.no(answerer((PUT_MANY, STOP_END, ("zip", "quick", "x", "", ONE)), "shallow"))
        self.yes(answerer((PUT_MANY, STOP_END), "shallow"))
        self.yes(("under", "h", ONE, ("x", X), (GET_QUICK,)))

    def test_a_clause_of_other_parts(self):
        self.no(answerer((GET_QUICK[:4],)))
        self.no(answerer(((*GET_QUICK, ONE),)))
        for thing in (None, 7, "clause", (), [], ONE, "abcde"):
            self.no(answerer((thing,)))

    def test_clauses_rise(self):
        self.yes(answerer(ends(["a", "ab", "b"])))
        self.no(answerer(ends(["b", "a"])))
        self.no(answerer(ends(["ab", "a"])))
        self.no(answerer(ends(["a", "c", "b"])))
        self.no(answerer(ends(["a", "a"])))
        self.no(answerer((GET_QUICK, ("get", "end", "x", "", ONE))))

    def test_how_many_clauses(self):
        self.yes(answerer(ends("abcd")))
        self.no(answerer(ends("abcde")))
        self.yes(("under", "h", ONE, ("x", X), ends("abcd")))
        self.no(("under", "h", ONE, ("x", X), ends("abcde")))
        for thing in (None, 7, "", "abc", GET_QUICK, ONE):
            self.no(answerer(thing))

    def test_parts(self):
        self.yes(spread(120))
        self.no(spread(121))
        self.no(spread(5000))

    def test_depth(self):
        self.yes(nested(20))
        self.no(nested(21))
        self.no(nested(20000))
        self.yes(("two", ONE, nested(19)))
        self.no(("two", ONE, nested(20)))
        self.no(answerer((("get", "end", "x", "", nested(20)),)))

    def test_anything_is_answered(self):
        for thing in no_tuples():
            self.no(thing)
            for term in TERMS:
                for at in range(len(term)):
                    told = is_term(with_part(term, at, thing))
                    self.assertIs(type(told), bool)
            self.no(("handle", "deep", ONE, thing, ()))
            self.no(("handle", "deep", ONE, ("x", X), (thing,)))
            for clause in (GET_QUICK, PUT_MANY, STOP_END):
                for at in range(5):
                    told = is_term(answerer((with_part(clause, at, thing),)))
                    self.assertIs(type(told), bool)

    def test_the_argument_by_name(self):
        self.assertIs(is_term(thing=ONE), True)
        self.assertIs(is_term(thing=None), False)
