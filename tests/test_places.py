"""places_of, part_at, put_at, parts_of, deep_of ([4])."""

import unittest

from handledeeds.errors import NoPlace
from handledeeds.terms import deep_of, part_at, parts_of, places_of, put_at
from tests.samples import DEEP, ONE, TERMS, THREE, TWO, UNDER, X, frozen, nested, spread

FIVE = ("under", "h", ("two", ONE, TWO), ("x", ("first", X)), (
    ("get", "quick", "u", "", ("second", X)),
    ("put", "many", "v", "k", ("call", ("name", "k"), ("name", "v"))),
))

FIVE_PLACES = [(), (0,), (0, 0), (0, 1), (1,), (1, 0), (2,), (2, 0), (3,), (3, 0), (3, 1)]


class PlacesTest(unittest.TestCase):
    def test_all_places_in_order(self):
        self.assertEqual(places_of(ONE), [()])
        self.assertEqual(places_of(("if", ONE, ("first", X), TWO)), [(), (0,), (1,), (1, 0), (2,)])
        self.assertEqual(places_of(FIVE), FIVE_PLACES)
        self.assertEqual(places_of(term=FIVE), FIVE_PLACES)

    def test_answerers_and_their_parts(self):
        self.assertEqual(places_of(DEEP), [(), (0,), (0, 0), (1,), (2,), (3,), (3, 0), (3, 1), (4,)])
        self.assertEqual(part_at(DEEP, (0,)), ("ask", "get", ONE))
        self.assertEqual(part_at(DEEP, (1,)), X)
        self.assertEqual([part_at(DEEP, (at,)) for at in (2, 3, 4)], [clause[4] for clause in DEEP[4]])
        self.assertEqual([part_at(UNDER, (at,)) for at in (0, 1, 2)], [UNDER[2], X, X])

    def test_the_order_of_parts_of_each_form(self):
        for term, parts in [
            (("fun", "x", ONE), [ONE]), (("rec", "f", "x", ONE), [ONE]), (("call", ONE, TWO), [ONE, TWO]),
            (("let", "x", ONE, TWO), [ONE, TWO]), (("op", "plus", ONE, TWO), [ONE, TWO]),
            (("if", ONE, TWO, THREE), [ONE, TWO, THREE]), (("two", ONE, TWO), [ONE, TWO]), (("first", ONE), [ONE]),
            (("second", ONE), [ONE]), (("ask", "get", ONE), [ONE]), (("askof", "h", "get", ONE), [ONE]),
            (("past", "get", ONE), [ONE]), (("pastof", "h", ONE), [ONE]), (("ward", ONE, TWO), [ONE, TWO]),
            (("num", 7), []), (X, []),
        ]:
            self.assertEqual(places_of(term), [()] + [(at,) for at in range(len(parts))])
            self.assertEqual([part_at(term, (at,)) for at in range(len(parts))], parts)

    def test_part_at_each_place(self):
        self.assertEqual(part_at(FIVE, ()), FIVE)
        self.assertEqual(part_at(FIVE, (0, 1)), TWO)
        self.assertEqual(part_at(FIVE, (1, 0)), X)
        self.assertEqual(part_at(term=FIVE, place=(3, 0)), ("name", "k"))

    def test_a_place_that_is_not_there(self):
        for term, place in [
            (FIVE, (4,)), (FIVE, (-1,)), (FIVE, (0, 2)), (FIVE, (0, -1)), (FIVE, (0, 0, 0)), (FIVE, (1, 0, 0)),
            (FIVE, (3, 0, 1)), (FIVE, (4, 0)), (FIVE, (-1, 0)), (ONE, (0,)), (X, (0,)), (ONE, (-1,)), (X, (0, 0)),
            (nested(5), (0, 0, 0, 0, 0)), (("first", ONE), (1,)), (DEEP, (5,)), (FIVE, (10 ** 20,)), (FIVE, (True,)),
        ]:
            with self.subTest(place=place):
                with self.assertRaises(NoPlace) as caught:
                    part_at(term, place)
                self.assertIs(caught.exception.place, place)
                with self.assertRaises(NoPlace) as caught:
                    put_at(term, place, ONE)
                self.assertIs(caught.exception.place, place)

    def test_put_at(self):
        self.assertEqual(put_at(FIVE, (), ONE), ONE)
        self.assertEqual(put_at(("two", ONE, ("first", TWO)), (1, 0), X), ("two", ONE, ("first", X)))
        self.assertEqual(put_at(term=("fun", "x", ONE), place=(0,), other=X), ("fun", "x", X))
        self.assertEqual(put_at(UNDER, (0, 0), X), ("under", "h", ("askof", "h", "get", X), *UNDER[3:]))
        self.assertEqual(put_at(UNDER, (1,), ONE), (*UNDER[:3], ("x", ONE), UNDER[4]))
        self.assertEqual(put_at(UNDER, (2,), ONE), (*UNDER[:4], (("get", "quick", "u", "", ONE),)))

    def test_put_at_each_place_leaves_all_else(self):
        for term in [*TERMS, FIVE]:
            before = frozen(term)
            for place in places_of(term):
                for other in (("num", 500), ("let", "x", X, X)):
                    told = put_at(term, place, other)
                    self.assertEqual(part_at(told, place), other)
                    self.assertEqual(put_at(told, place, part_at(term, place)), term)
                    for away in places_of(term):
                        if away[:len(place)] != place and place[:len(away)] != away:
                            self.assertEqual(part_at(told, away), part_at(term, away))
                self.assertEqual(put_at(term, place, part_at(term, place)), term)
            self.assertEqual(frozen(term), before)

    def test_parts_and_depth(self):
        self.assertEqual((parts_of(ONE), deep_of(X)), (1, 1))
        self.assertEqual((parts_of(FIVE), deep_of(FIVE)), (11, 3))
        self.assertEqual((parts_of(DEEP), deep_of(DEEP)), (9, 3))
        self.assertEqual((parts_of(term=spread(120)), deep_of(term=nested(20))), (120, 20))
        self.assertEqual(deep_of(("two", nested(4), nested(7))), 8)
        self.assertEqual(deep_of(("two", nested(7), nested(4))), 8)
        for term in TERMS:
            self.assertEqual(parts_of(term), len(places_of(term)))
            self.assertEqual(deep_of(term), 1 + max(len(place) for place in places_of(term)))

    def test_a_told_term_may_be_far_deeper(self):
        term = ONE
        for _ in range(60):
            term = put_at(nested(20), (0,) * 19, term)
        self.assertEqual((parts_of(term), deep_of(term)), (1141, 1141))
        self.assertEqual(len(places_of(term)), 1141)
        self.assertEqual(part_at(term, (0,) * 1140), ONE)
        self.assertEqual(part_at(put_at(term, (0,) * 1140, TWO), (0,) * 1140), TWO)

    def test_a_told_list_is_the_askers_own(self):
        told = places_of(FIVE)
        told.clear()
        self.assertEqual(places_of(FIVE), FIVE_PLACES)
        self.assertIsNot(places_of(FIVE), places_of(FIVE))
