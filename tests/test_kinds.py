"""kinds.py ([6], within the bounds of [3])."""

import unittest

from handledeeds.kinds import comes_of, is_kind, is_roster, is_sheet, opens_of, put_in, put_in_roster, settled
from handledeeds.kindtext import kind_in
from tests.samples import frozen

N = "number"
A0, A1, A2 = ("any", 0), ("any", 1), ("any", 2)
NONE = ((), None)

KINDS = [
    N, ("pair", N, N), ("any", 0), ("any", 5000), ("fun", N, NONE, N), ("fun", A0, ((), 0), A1),
    ("fun", N, (("get",), None), N), ("fun", N, (("get", "get", "put"), 7), ("pair", A0, N)),
    ("fun", N, (("0.2:get", ":get", "get"), 0), N), ("pair", ("fun", N, NONE, ("pair", N, A0)), A0),
]

LABELS = [
    "a", "get", "zzzzzz", ":get", "0:get", "5:get", "0.2:get", "0.0.0.10.0:abcdef", "12:a", "get" , "num", "to",
]

NO_LABELS = [
    "", "fun", "number", "abcdefg", "A", "a1", "get ", " get", "get:", ":", "::get", ":get:", "0:", "0:get:put", "0:1:get",
    "00:get", "0.01:get", "0.00:get", ".:get", "0.:get", ".0:get", "0..1:get", "-1:get", "+1:get", "x:get", "0,1:get",
    "0.2 :get", "0.2: get", "0.2get", "0.2.get", ":fun", "0:number", ":Get", ":abcdefg", "\u0660:get", "\u00b2:get", "1_0:get",
    None, 7, True, ("get",), ["get"], b"get",
]

NO_PLACE = [None, True, False, 0, 7, -1, "", "numbers", "Number", "pair", "any", "fun", "a0", [], {}, b"number", 1.5,
            ["number"], ("number",), ("pair",), ("fun",), (N, N), ("Pair", N, N), ("any0", 0)]


def deep(depth, kind=N):
    """A kind of so much depth."""
    for _ in range(depth - 1):
        kind = ("pair", N, kind)
    return kind


def wide(parts):
    """A kind of an odd number of parts, not deep."""
    if parts == 1:
        return N
    left = (parts - 1) // 2
    left -= 1 - left % 2
    return ("pair", wide(left), wide(parts - 1 - left))


class Anything:
    __hash__ = None

    def __eq__(self, other):
        raise ValueError


def anything():
    round_list = ["pair"]
    round_list.append(round_list)
    deep_tuple, deep_list = (), []
    for _ in range(3000):
        deep_tuple, deep_list = (deep_tuple,), [deep_list]
    return [*NO_PLACE, Anything(), round_list, deep_tuple, deep_list, set(), int, is_kind, ("pair", N, round_list)]


class IsKindTest(unittest.TestCase):
    def yes(self, thing):
        self.assertIs(is_kind(thing), True, thing)

    def no(self, thing):
        self.assertIs(is_kind(thing), False)

    def test_each_form(self):
        for kind in KINDS:
            self.yes(kind)
        self.assertIs(is_kind(thing=N), True)

    def test_anything_else(self):
        for thing in anything():
            self.no(thing)
            self.no(("pair", N, thing))
            self.no(("pair", thing, N))
            self.no(("fun", thing, NONE, N))
            self.no(("fun", N, NONE, thing))
            self.no(("fun", N, thing, N))
            self.no(("fun", N, (thing, None), N))

    def test_lists_for_tuples(self):
        for kind in KINDS[1:]:
            self.no(list(kind))
            self.no(("pair", N, list(kind)))
        self.no(("fun", N, [(), None], N))
        self.no(("fun", N, ([], None), N))
        self.no(("fun", N, (["get"], None), N))

    def test_a_part_more_or_fewer_and_another_word(self):
        for kind in KINDS[1:]:
            self.no((*kind, N))
            self.no(kind[:-1])
            for word in ("number", "pairs", "Fun", "", None, 7, True, ("pair",), ["pair"]):
                self.no((word, *kind[1:]))
        self.no(("any",))
        self.no(("pair", N))
        self.no(("fun", N, N))
        self.no(("fun", N, N, NONE))
        self.no(("any", N))
        self.no(("any", 0, 0))

    def test_numbers_of_open_ones(self):
        for n in (True, False, -1, -10 ** 30, None, "0", 0.0, (0,), [0]):
            self.no(("any", n))
            if n is not None:
                self.no(("fun", N, ((), n), N))
        self.yes(("any", 10 ** 30))

    def test_parts(self):
        self.yes(wide(39))
        self.no(wide(41))
        self.no(wide(4001))
        self.yes(("fun", wide(19), NONE, wide(19)))
        # Rosters are no parts.
        self.yes(("fun", wide(19), (tuple(["get"] * 8), 0), wide(19)))
        self.no(("fun", wide(19), NONE, wide(21)))
        most = ("fun", wide(19), NONE, ("pair", N, wide(17)))
        self.yes(most)
        self.no(("pair", most, N))

    def test_depth(self):
        self.yes(deep(8))
        self.no(deep(9))
        self.no(deep(2000))
        self.yes(("fun", deep(7), NONE, N))
        self.no(("fun", deep(8), NONE, N))
        self.no(("fun", N, NONE, deep(8)))

    def test_labels_of_its_rosters(self):
        for many, told in ((8, True), (9, False), (100, False)):
            self.assertIs(is_kind(("fun", N, (tuple(["get"] * many), None), N)), told)
            self.assertIs(is_kind(("pair", N, ("fun", N, (tuple(["get"] * many), 0), N))), told)
        self.no(("fun", N, (("put", "get"), None), N))


class IsRosterTest(unittest.TestCase):
    def yes(self, thing):
        self.assertIs(is_roster(thing), True, thing)

    def no(self, thing):
        self.assertIs(is_roster(thing), False)

    def test_labels(self):
        for label in LABELS:
            self.yes(((label,), None))
            self.yes(((label, label), 0))
        for label in NO_LABELS:
            self.no(((label,), None))
            self.no((("a", label), None))

    def test_labels_dont_fall(self):
        self.yes((("0.2:get", "0:get", ":get", "get"), 0))
        self.no((("0:get", "0.2:get"), 0))
        self.no((("get", ":get"), 0))
        self.no((("put", "get"), None))
        self.no((("a", "c", "b"), None))
        self.yes((("a", "a", "b", "b"), None))

    def test_tails(self):
        for tail in (None, 0, 1, 10 ** 20):
            self.yes(((), tail))
        for tail in (-1, True, False, "0", "r0", (), (0,), [0], 0.0):
            self.no(((), tail))

    def test_how_many(self):
        self.yes((tuple("abcdefgh"), None))
        self.no((tuple("abcdefghi"), None))

    def test_other_things(self):
        for thing in anything():
            self.no(thing)
            self.no((thing, 0))
        for thing in ((), ((),), ((), 0, 0), [(), 0], ([], 0), ("get", 0), ({}, 0), ("", None)):
            self.no(thing)
        self.assertIs(is_roster(thing=NONE), True)


class IsSheetTest(unittest.TestCase):
    def yes(self, thing):
        self.assertIs(is_sheet(thing), True, thing)

    def no(self, thing):
        self.assertIs(is_sheet(thing), False)

    def test_sheets(self):
        self.yes(())
        self.yes((("get", N, N),))
        self.yes((("get", N, ("pair", N, N)), ("put", ("pair", ("pair", N, N), N), N)))
        self.assertIs(is_sheet(thing=()), True)

    def test_how_many_deeds(self):
        for many, told in ((6, True), (7, False)):
            self.assertIs(is_sheet(tuple([(deed, N, N) for deed in "abcdefg"[:many]])), told)

    def test_deeds_rise(self):
        self.no((("put", N, N), ("get", N, N)))
        self.no((("get", N, N), ("get", N, N)))
        self.no((("a", N, N), ("c", N, N), ("b", N, N)))

    def test_deeds_are_names(self):
        for deed in ("", "fun", "number", ":get", "0:get", "abcdefg", "A", None, 7, True, ("get",), ["get"]):
            self.no(((deed, N, N),))

    def test_kinds(self):
        self.yes((("get", deep(4), deep(4)),))
        for kind in (deep(5), A0, ("any", 3), ("fun", N, NONE, N), ("pair", N, A0), ("pair", N, ("fun", N, NONE, N)), ["pair", N, N],
                     *NO_PLACE):
            self.no((("get", kind, N),))
            self.no((("get", N, kind),))

    def test_other_things(self):
        for thing in anything():
            self.no(thing)
            self.no((thing,))
        self.no([("get", N, N)])
        self.no((["get", N, N],))
        self.no((("get", N),))
        self.no((("get", N, N, N),))


class OpensTest(unittest.TestCase):
    def test_as_they_first_stand(self):
        self.assertEqual(opens_of(N), ([], []))
        self.assertEqual(opens_of(("any", 4)), ([4], []))
        self.assertEqual(opens_of(kind_in("fun a5 [ get r3 ] fun a1 [ r9 ] pair a5 a0")), ([5, 1, 0], [3, 9]))
        self.assertEqual(opens_of(kind_in("pair fun a1 [ r1 ] a0 fun a0 [ r0 ] a1")), ([1, 0], [1, 0]))

    def test_each_once_and_closed_tails_not(self):
        self.assertEqual(opens_of(kind_in("fun fun a2 [ r7 ] a2 [ r7 ] fun a2 [ ] a1")), ([2, 1], [7]))
        self.assertEqual(opens_of(kind=("fun", N, NONE, N)), ([], []))

    def test_what_is_handed_its_roster_what_is_told(self):
        self.assertEqual(opens_of(("fun", ("fun", A2, ((), 2), A1), ((), 1), ("fun", A0, ((), 0), A2))), ([2, 1, 0], [2, 1, 0]))


class PutInTest(unittest.TestCase):
    def test_all_at_once(self):
        self.assertEqual(put_in(("pair", A0, A1), {0: A1, 1: A0}, {}), ("pair", A1, A0))
        kind = kind_in("fun a0 [ r0 ] fun a1 [ r1 ] a0")
        told = put_in(kind, {0: A1, 1: ("pair", A0, N)}, {0: ((), 1), 1: ((), 0)})
        self.assertEqual(told, kind_in("fun a1 [ r1 ] fun pair a0 number [ r0 ] a1"))

    def test_what_is_put_in_is_left_as_it_is(self):
        self.assertEqual(put_in(A0, {0: ("pair", A0, A0)}, {}), ("pair", A0, A0))
        self.assertEqual(put_in_roster(((), 0), {}, {0: (("get",), 0)}), (("get",), 0))

    def test_labels_stand_beside_the_others_in_order(self):
        self.assertEqual(put_in_roster((("get", "say"), 0), {}, {0: (("a", "get", "z"), 4)}), (("a", "get", "get", "say", "z"), 4))
        self.assertEqual(put_in(("fun", N, (("b",), 0), N), {}, {0: (("0:z", "a"), None)}), ("fun", N, (("0:z", "a", "b"), None), N))

    def test_what_is_in_neither_stays(self):
        kind = kind_in("fun a0 [ get r0 ] pair a1 number")
        self.assertEqual(put_in(kind, {}, {}), kind)
        self.assertEqual(put_in(kind, {7: N}, {7: NONE}), kind)
        self.assertEqual(put_in(kind, {1: N}, {7: NONE}), kind_in("fun a0 [ get r0 ] pair number number"))
        self.assertEqual(put_in_roster((("get",), None), {0: N}, {0: (("put",), 1)}), (("get",), None))
        self.assertEqual(put_in_roster((("get",), 1), {1: N}, {0: (("put",), 1)}), (("get",), 1))

    def test_kinds_and_tails_apart(self):
        kind = kind_in("fun a0 [ r0 ] a0")
        self.assertEqual(put_in(kind, {0: N}, {}), kind_in("fun number [ r0 ] number"))
        self.assertEqual(put_in(kind, {}, {0: NONE}), kind_in("fun a0 [ ] a0"))

    def test_handed_dicts_stay(self):
        kinds, tails = {0: ("pair", A0, N), 3: N}, {0: (("get",), 0)}
        before = frozen((kinds, tails))
        put_in(kind_in("fun a0 [ r0 ] a3"), kinds, tails)
        put_in_roster(((), 0), kinds, tails)
        self.assertEqual(frozen((kinds, tails)), before)

    def test_by_name(self):
        self.assertEqual(put_in(kind=A0, kinds={0: N}, tails={}), N)
        self.assertEqual(put_in_roster(roster=((), 0), kinds={}, tails={0: NONE}), NONE)

    def test_far_deeper_than_what_is_handed_in(self):
        kind = A0
        for _ in range(1500):
            kind = put_in(("fun", A0, ((), 0), N), {0: kind}, {})
        self.assertEqual(opens_of(kind), ([0], [0]))
        self.assertEqual(opens_of(settled(kind, NONE)[0]), ([0], [0]))
        self.assertIsNotNone(comes_of((kind, NONE), (kind, NONE)))
        self.assertIs(is_kind(kind), False)


class SettledTest(unittest.TestCase):
    def test_the_kind_ahead_of_the_roster(self):
        self.assertEqual(settled(N, ((), 7)), (N, ((), 0)))
        self.assertEqual(settled(kind_in("fun a5 [ r9 ] a2"), (("get",), 9)), (kind_in("fun a0 [ r0 ] a1"), (("get",), 0)))
        self.assertEqual(settled(kind_in("fun a5 [ r9 ] a2"), (("get",), 8)), (kind_in("fun a0 [ r0 ] a1"), (("get",), 1)))
        self.assertEqual(settled(("pair", A1, A0), NONE), (("pair", A0, A1), NONE))

    def test_again_the_same(self):
        for kind in KINDS:
            for roster in (NONE, ((), 0), (("get",), 3)):
                told = settled(kind, roster)
                self.assertEqual(settled(told[0], told[1]), told)
                self.assertEqual(settled(kind=kind, roster=roster), told)


def of(text, roster=NONE):
    return (kind_in(text), roster)


class ComesOfTest(unittest.TestCase):
    def test_of_itself(self):
        for kind in KINDS:
            pair = settled(kind, (("get",), 3))
            kinds, tails = comes_of(pair, pair)
            self.assertEqual(kinds, {n: ("any", n) for n in kinds})
            self.assertEqual(tails, {n: ((), n) for n in tails})
            self.assertEqual((list(kinds), list(tails)), opens_of(("fun", pair[0], pair[1], N)))

    def test_all_opens_and_no_others(self):
        first = of("fun a0 [ get r0 ] pair a0 a1", ((), 1))
        second = of("fun number [ get put r4 ] pair number fun a7 [ ] a7", (("say",), None))
        self.assertEqual(comes_of(first, second), (
            {0: N, 1: ("fun", ("any", 7), NONE, ("any", 7))}, {0: (("put",), 4), 1: (("say",), None)}))
        self.assertEqual(comes_of(of("number"), of("number")), ({}, {}))
        self.assertEqual(comes_of(of("number", ((), 0)), of("number", ((), 5))), ({}, {0: ((), 5)}))

    def test_put_in_it_is_the_second(self):
        first = of("fun fun a0 [ r0 ] a1 [ get r1 ] a0", (("get",), 1))
        second = of("fun fun number [ 0:get r3 ] pair a3 a3 [ a get get z r2 ] number", (("a", "get", "get", "z"), 2))
        kinds, tails = comes_of(first=first, second=second)
        self.assertEqual((put_in(first[0], kinds, tails), put_in_roster(first[1], kinds, tails)), second)

    def test_other_kinds(self):
        for one, other in (("number", "a0"), ("number", "pair number number"), ("pair number number", "number"),
                           ("pair a0 a1", "fun a0 [ ] a1"), ("fun a0 [ ] a1", "pair a0 a1"), ("pair number number", "a0"),
                           ("pair number a0", "pair pair number number a0"), ("fun number [ ] a0", "fun a0 [ ] number")):
            self.assertIsNone(comes_of(of(one), of(other)))

    def test_labels_more_and_fewer(self):
        self.assertIsNone(comes_of(of("number", (("get",), 0)), of("number", ((), 0))))
        self.assertIsNone(comes_of(of("number", (("get", "get"), 0)), of("number", (("get", "put"), 0))))
        self.assertEqual(comes_of(of("number", (("get",), 0)), of("number", (("get", "get"), 0))), ({}, {0: (("get",), 0)}))
        self.assertEqual(comes_of(of("number", (("b",), 0)), of("number", (("a", "b", "c"), None))), ({}, {0: (("a", "c"), None)}))

    def test_closed_tails(self):
        self.assertIsNone(comes_of(of("number", NONE), of("number", ((), 0))))
        self.assertIsNone(comes_of(of("number", NONE), of("number", (("get",), None))))
        self.assertIsNone(comes_of(of("number", (("get",), None)), of("number", NONE)))
        self.assertIsNone(comes_of(of("fun number [ get ] number"), of("fun number [ get put ] number")))
        self.assertEqual(comes_of(of("number", ((), 0)), of("number", NONE)), ({}, {0: NONE}))

    def test_what_would_have_to_be_two_unlike_things(self):
        self.assertIsNone(comes_of(of("pair a0 a0"), of("pair number a0")))
        self.assertIsNone(comes_of(of("pair a0 a0"), of("pair a0 a1")))
        self.assertIsNone(comes_of(of("pair a0 a0"), of("pair fun number [ ] number fun number [ r0 ] number")))
        self.assertEqual(comes_of(of("pair a0 a1"), of("pair a3 a3")), ({0: ("any", 3), 1: ("any", 3)}, {}))
        self.assertIsNone(comes_of(of("fun number [ r0 ] number", ((), 0)), of("fun number [ get r0 ] number", ((), 0))))
        self.assertIsNone(comes_of(of("fun number [ r0 ] number", ((), 0)), of("fun number [ r0 ] number", ((), 1))))
        self.assertIsNone(comes_of(of("fun number [ get r0 ] number", ((), 0)), of("fun number [ get ] number", (("get",), None))))
        self.assertEqual(comes_of(of("fun number [ get r0 ] number", ((), 0)), of("fun number [ get get ] number", (("get",), None))),
                         ({}, {0: (("get",), None)}))


if __name__ == "__main__":
    unittest.main()
