"""solver.py ([8])."""

import random
import unittest
from collections import Counter

from handledeeds.errors import Unlike
from handledeeds.kinds import settled
from handledeeds.solver import Solver
from tests import slowlook

N = "number"
NONE = ((), None)


def made(kinds=0, tails=0):
    """A Solver, so many open kinds, so many open tails."""
    solver = Solver()
    return (solver, *[solver.new_kind() for _ in range(kinds)], *[solver.new_tail() for _ in range(tails)])


def fun(handed, roster, told):
    return ("fun", handed, roster, told)


class NewTest(unittest.TestCase):
    def test_numbered_from_0_kinds_and_tails_apart(self):
        solver = Solver()
        self.assertEqual([solver.new_kind() for _ in range(3)], [("any", 0), ("any", 1), ("any", 2)])
        self.assertEqual([solver.new_tail() for _ in range(3)], [((), 0), ((), 1), ((), 2)])
        self.assertEqual(solver.new_kind(), ("any", 3))

    def test_each_solver_by_itself(self):
        one, a = made(kinds=1)
        other, b = made(kinds=1)
        one.same(a, N)
        self.assertEqual((one.told(a), other.told(b)), (N, b))

    def test_new_ones_are_apart_from_all_found(self):
        solver, a, b, r, q = made(2, 2)
        solver.same_roster(solver.with_labels(r, ("get",)), solver.with_labels(q, ("put",)))
        solver.same(a, b)
        c, s = solver.new_kind(), solver.new_tail()
        solver.same(c, N)
        solver.close(s)
        self.assertEqual(solver.told(a), solver.told(b))
        self.assertEqual(solver.told(a)[0], "any")
        self.assertIsNotNone(solver.told_roster(r)[1])


class SameTest(unittest.TestCase):
    def unlike(self, solver, kind, other):
        for left, right in ((kind, other), (other, kind)):
            with self.assertRaises(Unlike):
                solver.same(left, right)

    def test_an_open_one_and_another(self):
        for kind in (N, ("pair", N, N), fun(N, (("get",), None), N)):
            solver, a, b, c = made(3)
            solver.same(a, kind)
            solver.same(kind, b)
            solver.same(c, a)
            self.assertEqual([solver.told(one) for one in (a, b, c)], [kind] * 3)

    def test_told_as_far_as_is_found(self):
        solver, a, b, c, r = made(3, 1)
        solver.same(a, fun(b, r, ("pair", b, c)))
        self.assertEqual(solver.told(a), fun(b, r, ("pair", b, c)))
        solver.same(c, N)
        self.assertEqual(solver.told(a), fun(b, r, ("pair", b, N)))
        solver.close(r)
        solver.same(b, ("pair", c, c))
        self.assertEqual(solver.told(a), fun(("pair", N, N), NONE, ("pair", ("pair", N, N), N)))
        self.assertEqual(solver.told(kind=N), N)

    def test_two_open_ones(self):
        solver, a, b, c = made(3)
        solver.same(a, b)
        solver.same(b, c)
        solver.same(a, c)
        self.assertEqual(len({solver.told(one) for one in (a, b, c)}), 1)
        solver.same(kind=c, other=N)
        self.assertEqual([solver.told(one) for one in (a, b, c)], [N] * 3)

    def test_within_pairs_functions_rosters(self):
        solver, a, b, r, q = made(2, 2)
        solver.same(("pair", a, fun(N, (("get",), r[1]), b)), ("pair", ("pair", N, N), fun(N, (("get", "put"), None), a)))
        self.assertEqual((solver.told(a), solver.told(b), solver.told_roster(r)), (("pair", N, N), ("pair", N, N), (("put",), None)))
        solver, a, b = made(2)
        solver.same(fun(a, NONE, N), fun(N, NONE, b))
        self.assertEqual((solver.told(a), solver.told(b)), (N, N))

    def test_unlike_forms(self):
        solver, a, b, r = made(2, 1)
        kinds = [N, ("pair", a, b), fun(a, r, b)]
        for at, kind in enumerate(kinds):
            for other in kinds[at + 1:]:
                self.unlike(solver, kind, other)
                self.unlike(solver, ("pair", kind, N), ("pair", other, N))
                self.unlike(solver, ("pair", N, kind), ("pair", N, other))
                self.unlike(solver, fun(kind, r, N), fun(other, r, N))
                self.unlike(solver, fun(N, r, kind), fun(N, r, other))
        self.assertEqual((solver.told(a), solver.told(b), solver.told_roster(r)), (a, b, r))

    def test_unlike_by_what_is_found(self):
        solver, a, b = made(2)
        solver.same(a, N)
        solver.same(b, ("pair", a, a))
        self.unlike(solver, a, b)
        self.unlike(solver, b, ("pair", N, ("pair", N, N)))

    def test_something_within_itself(self):
        solver, a, b, c, r = made(3, 1)
        self.unlike(solver, a, ("pair", a, N))
        self.unlike(solver, a, fun(N, r, ("pair", N, a)))
        self.unlike(solver, ("pair", a, b), ("pair", ("pair", b, N), a))
        solver.same(a, ("pair", b, N))
        solver.same(b, fun(c, r, N))
        self.unlike(solver, c, a)
        self.unlike(solver, fun(b, r, N), b)
        self.assertEqual(solver.told(c), c)
        solver.same(a, a)
        solver.same(b, b)
        solver.same(c, c)
        self.assertEqual(solver.told(a), ("pair", fun(c, r, N), N))

    def test_within_itself_through_rosters(self):
        solver, a, r, q = made(1, 2)
        self.unlike(solver, fun(N, r, N), fun(N, solver.with_labels(r, ("get",)), N))
        solver.same_roster(r, solver.with_labels(q, ("get",)))
        self.unlike(solver, fun(a, r, N), fun(N, q, N))
        self.unlike(solver, fun(a, q, N), fun(N, solver.with_labels(r, ("put",)), N))
        self.assertEqual(solver.told(a), a)
        self.assertEqual(solver.told_roster(r), (("get",), solver.told_roster(q)[1]))

    def test_a_refused_one_changes_nothing(self):
        solver, a, b, r, q = made(2, 2)
        # The first half could be.
        for kind, other in ((("pair", a, N), ("pair", N, ("pair", N, N))), (fun(a, r, b), fun(N, (("get",), None), ("pair", N, b))),
                            (("pair", fun(a, r, N), fun(N, r, N)), ("pair", fun(b, (("get",), None), N), fun(N, NONE, N))),
                            (("pair", fun(N, (("get",), 0), N), N), ("pair", fun(N, (("put",), 1), N), ("pair", N, N)))):
            self.unlike(solver, kind, other)
            self.assertEqual([solver.told(one) for one in (a, b)], [a, b])
            self.assertEqual([solver.told_roster(one) for one in (r, q)], [r, q])
            self.assertEqual(solver.opens(("pair", a, b), r), ([0, 1], [0]))
        self.assertEqual((solver.new_kind(), solver.new_tail()), (("any", 2), ((), 2)))
        solver.same(a, ("pair", b, b))
        solver.close(r)
        self.assertEqual((solver.told(a), solver.told_roster(r)), (("pair", b, b), NONE))

    def test_kinds_that_are_the_same_many_times_over(self):
        # Told whole each would be of more parts than could be told.
        solver = Solver()
        ends = [solver.new_kind(), solver.new_kind()]
        tops = list(ends)
        for _ in range(200):
            for at in (0, 1):
                other = solver.new_kind()
                solver.same(other, ("pair", tops[at], tops[at]))
                tops[at] = other
        solver.same(tops[0], tops[1])
        self.assertEqual(solver.told(ends[0]), solver.told(ends[1]))
        self.assertEqual(solver.opens(tops[0], NONE), ([solver.told(ends[0])[1]], []))
        with self.assertRaises(Unlike):
            solver.same(ends[0], tops[1])


class SameRosterTest(unittest.TestCase):
    def unlike(self, solver, roster, other):
        for left, right in ((roster, other), (other, roster)):
            with self.assertRaises(Unlike):
                solver.same_roster(left, right)

    def test_what_one_has_more_comes_into_the_other_ones_tail(self):
        solver, r, q = made(0, 2)
        solver.same_roster(solver.with_labels(r, ("get",)), q)
        self.assertEqual(solver.told_roster(q), (("get",), solver.told_roster(r)[1]))
        self.assertEqual(solver.told_roster(r)[0], ())

    def test_both_go_on_in_one_new_tail(self):
        solver, r, q = made(0, 2)
        solver.same_roster(roster=(("a", "get", "get"), r[1]), other=(("get", "put"), q[1]))
        (ours, tail), (theirs, other) = solver.told_roster(r), solver.told_roster(q)
        self.assertEqual((ours, theirs), (("put",), ("a", "get")))
        self.assertEqual(tail, other)
        self.assertNotIn(tail, (None, r[1], q[1]))
        solver.same_roster(((), tail), (("say",), None))
        self.assertEqual(solver.told_roster(r), (("put", "say"), None))
        self.assertEqual(solver.told_roster(q), (("a", "get", "say"), None))

    def test_an_open_one_and_a_closed_one(self):
        for labels in ((), ("get",)):
            solver, r, q = made(0, 2)
            solver.same_roster(r, (labels, None))
            solver.same_roster((labels, None), q)
            self.assertEqual([solver.told_roster(one) for one in (r, q)], [(labels, None)] * 2)
            solver.same_roster(r, q)

    def test_each_label_as_often(self):
        solver, r = made(0, 1)
        solver.same_roster((("get",), r[1]), (("get", "get", "get"), None))
        self.assertEqual(solver.told_roster(r), (("get", "get"), None))

    def test_the_same_tail_or_closed_ones(self):
        solver, r, q = made(0, 2)
        solver.same_roster(r, r)
        solver.same_roster((("get",), r[1]), (("get",), r[1]))
        solver.same_roster((("get",), None), (("get",), None))
        self.unlike(solver, (("get",), r[1]), r)
        self.unlike(solver, (("get",), r[1]), (("put",), r[1]))
        self.unlike(solver, (("get", "get"), r[1]), (("get",), r[1]))
        self.unlike(solver, (("get",), None), NONE)
        self.unlike(solver, (("get",), None), (("put",), None))
        self.unlike(solver, (("get",), r[1]), NONE)
        self.unlike(solver, (("get",), r[1]), (("put",), None))
        self.assertEqual((solver.told_roster(r), solver.told_roster(q)), (r, q))
        solver.same_roster(r, q)
        self.unlike(solver, (("get",), r[1]), q)
        self.assertEqual(solver.told_roster(r), solver.told_roster(q))

    def test_by_what_is_found(self):
        solver, r, q, s = made(0, 3)
        solver.same_roster(r, (("get",), q[1]))
        solver.same_roster(q, (("put",), s[1]))
        self.assertEqual(solver.told_roster(r), (("get", "put"), s[1]))
        self.unlike(solver, r, (("get", "put", "put"), s[1]))
        solver.same_roster(r, (("a", "get", "put"), None))
        self.assertEqual([solver.told_roster(one) for one in (r, q, s)],
                         [(("a", "get", "put"), None), (("a", "put"), None), (("a",), None)])
        self.unlike(solver, q, NONE)


class CloseTest(unittest.TestCase):
    def test_close(self):
        solver, r, q = made(0, 2)
        solver.close(roster=(("get",), r[1]))
        self.assertEqual((solver.told_roster(r), solver.told_roster(q)), (NONE, q))
        with self.assertRaises(Unlike):
            solver.same_roster(r, (("get",), q[1]))
        solver.close(r)
        solver.close(NONE)
        self.assertEqual(solver.told_roster(r), NONE)

    def test_of_a_tail_that_is_found(self):
        solver, r, q = made(0, 2)
        solver.same_roster(r, (("get",), q[1]))
        solver.close(r)
        self.assertEqual((solver.told_roster(r), solver.told_roster(q)), ((("get",), None), NONE))


class ToldTest(unittest.TestCase):
    def test_with_labels(self):
        solver, r = made(0, 1)
        self.assertEqual(solver.with_labels(r, ("put", "get")), (("get", "put"), 0))
        self.assertEqual(solver.with_labels(roster=(("b",), 0), labels=("a", "b", "c")), (("a", "b", "b", "c"), 0))
        self.assertEqual(solver.with_labels((("b",), None), ()), (("b",), None))
        self.assertEqual(solver.told_roster(r), r)
        self.assertEqual(solver.opens(N, r), ([], [0]))

    def test_with_labels_of_what_is_found(self):
        solver, r = made(0, 1)
        solver.same_roster(r, (("put",), None))
        self.assertEqual(solver.told_roster(solver.with_labels(r, ("get",))), (("get", "put"), None))
        self.assertEqual(solver.told_roster(r), (("put",), None))

    def test_told_roster(self):
        solver, r = made(0, 1)
        self.assertEqual(solver.told_roster(roster=(("get",), 0)), (("get",), 0))
        solver.same_roster(r, (("a",), None))
        self.assertEqual(solver.told_roster((("b",), 0)), (("a", "b"), None))

    def test_opens(self):
        solver, a, b, c, r, q, s = made(3, 3)
        kind = fun(c, q, fun(b, r, c))
        self.assertEqual(solver.opens(kind, s), ([2, 1], [1, 0, 2]))
        self.assertEqual(solver.opens(kind=N, roster=NONE), ([], []))
        solver.same(c, ("pair", a, b))
        solver.close(r)
        solver.same_roster(s, (("get",), q[1]))
        tail = solver.told_roster(q)[1]
        self.assertEqual(solver.opens(kind, s), ([0, 1], [tail]))

    def test_asked_again_and_told_lists_changed(self):
        solver, a, r = made(1, 1)
        told = solver.opens(("pair", a, a), r)
        told[0].append(9)
        told[1].clear()
        self.assertEqual(solver.opens(("pair", a, a), r), ([0], [0]))
        self.assertEqual(solver.told(("pair", a, a)), solver.told(("pair", a, a)))

    def test_like(self):
        solver, a, b, r = made(2, 1)
        solver.same(a, ("pair", b, N))
        other = solver.like()
        self.assertIsNot(other, solver)
        self.assertEqual(other.told(a), ("pair", b, N))
        self.assertEqual((other.new_kind(), other.new_tail()), (("any", 2), ((), 1)))
        other.same(b, N)
        other.close(r)
        self.assertEqual((solver.told(a), solver.told_roster(r)), (("pair", b, N), r))
        self.assertEqual((solver.new_kind(), solver.new_tail()), (("any", 2), ((), 1)))
        solver.same(b, ("pair", N, N))
        self.assertEqual((other.told(a), solver.told(a)), (("pair", N, N), ("pair", ("pair", N, N), N)))


class ChanceTest(unittest.TestCase):
    """The same deeds done to a Solver and to cells by calls within calls."""

    def both(self, chance, room, kinds, tails):
        """A kind, in both ways."""
        pick = chance.randrange(4 if room else 2)
        if pick == 0:
            return (N, N)
        if pick == 1:
            return chance.choice(kinds)
        left, right = self.both(chance, room - 1, kinds, tails), self.both(chance, room - 1, kinds, tails)
        if pick == 2:
            return (("pair", left[0], right[0]), ("pair", left[1], right[1]))
        roster, cells = self.both_rosters(chance, tails)
        return (("fun", left[0], roster, right[0]), ("fun", left[1], cells, right[1]))

    def both_rosters(self, chance, tails):
        labels = tuple(sorted(chance.choices(["get", "put", ":get"], k=chance.randrange(3))))
        if chance.random() < 0.1:
            return ((labels, None), (Counter(labels), None))
        (_, tail), cell = chance.choice(tails)
        return ((labels, tail), (Counter(labels), cell))

    def told(self, kind, roster):
        """The slow one's, settled."""
        kinds, tails = {}, {}

        def number(kind):
            kind = slowlook.seen(kind)
            if isinstance(kind, slowlook.Cell):
                return ("any", kinds.setdefault(kind, len(kinds)))
            if kind == N:
                return N
            if kind[0] == "pair":
                return ("pair", number(kind[1]), number(kind[2]))
            return ("fun", number(kind[1]), number_roster(kind[2]), number(kind[3]))

        def number_roster(roster):
            labels, tail = slowlook.seen_roster(roster)
            return (tuple(sorted(labels.elements())), None if tail is None else tails.setdefault(tail, len(tails)))

        return (number(kind), number_roster(roster))

    def test_by_chance(self):
        for seed in range(400):
            chance = random.Random(seed)
            solver = Solver()
            kinds = [(solver.new_kind(), slowlook.Cell()) for _ in range(5)]
            tails = [(solver.new_tail(), slowlook.Cell()) for _ in range(4)]
            for _ in range(8):
                kind, other = [self.both(chance, 2, kinds, tails) for _ in range(2)]
                try:
                    solver.same(kind[0], other[0])
                    refused = False
                except Unlike:
                    refused = True
                try:
                    slowlook.unify(kind[1], other[1])
                    self.assertFalse(refused, seed)
                except slowlook.Bad:
                    self.assertTrue(refused, seed)
                    # The slow one is of no use any more.
                    break
                for (one, cell), (roster, end) in zip(kinds, [*tails, tails[0]]):
                    told = settled(solver.told(one), solver.told_roster(roster))
                    self.assertEqual(told, self.told(cell, (Counter(), end)), seed)


if __name__ == "__main__":
    unittest.main()
