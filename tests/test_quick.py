"""quick.py ([16])."""

import unittest

from handledeeds.machine import Machine
from handledeeds.quick import quick_ones, quickened, slowed
from handledeeds.rows import rows_of
from handledeeds.terms import are_like, names_free, places_of
from handledeeds.termtext import term_in, text_of
from handledeeds.treerun import told_of
from tests.chance import Maker
from tests.samples import TERMS, frozen

# A text, and that of the slow one.
SLOW = [
    ("7", "7"), ("deep 1 x x 0", "deep 1 x x 0"),
    ("deep 1 x x 1 quick get u plus u 1", "deep 1 x x 1 many get u ka call ka plus u 1"),
    ("under h 1 x x 1 quick get u u", "under h 1 x x 1 many get u ka call ka u"),
    ("deep 1 x x 3 quick a u u many b u k call k u quick c u 7", "deep 1 x x 3 many a u ka call ka u many b u k call k u many c u ka call ka 7"),
    ("deep 1 x x 1 end get u u", "deep 1 x x 1 end get u u"),
    ("shallow 1 x x 1 many get u k call k u", "shallow 1 x x 1 many get u k call k u"),
    # The first name that's not free in V, nor x.
    ("deep 1 x x 1 quick get u ka", "deep 1 x x 1 many get u kb call kb ka"),
    ("deep 1 x x 1 quick get ka 7", "deep 1 x x 1 many get ka kb call kb 7"),
    ("deep 1 x x 1 quick get ka two kb kd", "deep 1 x x 1 many get ka kc call kc two kb kd"),
    ("deep 1 x x 1 quick get u fun ka ka", "deep 1 x x 1 many get u ka call ka fun ka ka"),
    ("deep 1 x x 1 quick get u askof ka get u", "deep 1 x x 1 many get u ka call ka askof ka get u"),
    # Clauses within clauses, within functions and cleanings, in T, U and V.
    ("deep 1 x x 1 quick get u deep u x x 1 quick put v plus u v",
     "deep 1 x x 1 many get u ka call ka deep u x x 1 many put v ka call ka plus u v"),
    ("fun y ward deep y x x 1 quick get u u under h 1 x x 1 quick get u u",
     "fun y ward deep y x x 1 many get u ka call ka u under h 1 x x 1 many get u ka call ka u"),
    ("deep deep 1 x x 1 quick get u u x deep x x x 1 quick get u u 1 many get u k deep 1 x x 1 quick get u k",
     "deep deep 1 x x 1 many get u ka call ka u x deep x x x 1 many get u ka call ka u 1 many get u k deep 1 x x 1 many get u ka call ka k"),
    ("shallow 1 x deep 1 x x 1 quick get u u 0", "shallow 1 x deep 1 x x 1 many get u ka call ka u 0"),
]

# A text, and that of the quick one.
QUICK = [
    ("7", "7"), ("deep 1 x x 1 many get u k call k u", "deep 1 x x 1 quick get u u"),
    ("under h 1 x x 1 many get u k call k plus u 1", "under h 1 x x 1 quick get u plus u 1"),
    ("deep 1 x x 2 many a u k call k 1 many b u z call z u", "deep 1 x x 2 quick a u 1 quick b u u"),
    ("deep 1 x x 1 many get u k call k fun k k", "deep 1 x x 1 quick get u fun k k"),
    ("deep 1 x x 1 many get u k call k pastof k 1", "deep 1 x x 1 quick get u pastof k 1"),
    # What looks quick and isn't.
    ("deep 1 x x 1 many get u k call k call k u", None), ("deep 1 x x 1 many get u k call k k", None),
    ("deep 1 x x 1 many get u k call k two u k", None), ("deep 1 x x 1 many get u k plus call k u 1", None),
    ("deep 1 x x 1 many get u k two call k u call k u", None), ("deep 1 x x 1 many get u k k", None),
    ("deep 1 x x 1 many get u k call u 1", None), ("deep 1 x x 1 many get u k call z u", None),
    ("deep 1 x x 1 many get u k call first k u", None), ("deep 1 x x 1 many get u k u", None),
    ("shallow 1 x x 1 many get u k call k u", None), ("deep 1 x x 1 end get u call u 1", None),
    ("deep 1 x x 1 many get u k let y u call k y", None), ("deep 1 x x 1 many get u k two k u", None),
    ("under h 1 x x 1 many get u k if k u 1", None),
    # Parts first.
    ("deep 1 x x 1 many get u k call k deep 1 x x 1 many get u k call k u", "deep 1 x x 1 quick get u deep 1 x x 1 quick get u u"),
    ("deep 1 x x 1 many get u k deep 1 x x 1 many get u z call z k", "deep 1 x x 1 many get u k deep 1 x x 1 quick get u k"),
    ("deep 1 x x 1 many get u k call k deep k x x 1 many get u k call k u", "deep 1 x x 1 many get u k call k deep k x x 1 quick get u u"),
    ("shallow deep 1 x x 1 many get u k call k u x fun y deep 1 x x 1 many get u k call k u 1 many get u k call k ward 1 deep 1 x x 1 many get u k call k u",
     "shallow deep 1 x x 1 quick get u u x fun y deep 1 x x 1 quick get u u 1 many get u k call k ward 1 deep 1 x x 1 quick get u u"),
]

ONES = [
    ("7", []), ("deep 1 x x 0", []), ("deep 1 x x 1 quick get u u", [((), "get")]), ("deep 1 x x 1 many get u k call k u", []),
    ("deep 1 x x 3 quick a u u end b u u quick c u u", [((), "a"), ((), "c")]),
    ("two deep 1 x x 1 quick get u u under h 1 x x 1 quick put u u", [((0,), "get"), ((1,), "put")]),
    ("deep deep 1 x x 1 quick b u u x fun y deep 1 x x 1 quick c u u 1 quick a u deep u x x 1 quick d u u",
     [((), "a"), ((0,), "b"), ((1, 0), "c"), ((2,), "d")]),
]


class SlowedTest(unittest.TestCase):
    def test_by_hand(self):
        for text, slow in SLOW:
            self.assertEqual(text_of(slowed(term_in(text))), slow, text)

    def test_nothing_quick_is_left(self):
        for text, _ in [*SLOW, *QUICK]:
            self.assertEqual(quick_ones(slowed(term_in(text))), [])

    def test_the_first_name_of_many(self):
        letters = "abcdefghijklmnopqrstuvwxyz"
        names = ["k" + letter for letter in letters] + ["ka" + letter for letter in letters]
        for many in (0, 1, 25, 26, 27, 30):
            body = ("name", "u")
            for name in names[:many]:
                body = ("two", body, ("name", name))
            told = slowed(("handle", "deep", ("num", 1), ("x", ("num", 1)), (("get", "quick", "u", "", body),)))
            self.assertEqual(told[4], (("get", "many", "u", names[many], ("call", ("name", names[many]), body)),))
        self.assertEqual(names[27], "kab")


class QuickenedTest(unittest.TestCase):
    def test_by_hand(self):
        for text, quick in QUICK:
            self.assertEqual(text_of(quickened(term_in(text))), text if quick is None else quick, text)

    def test_slow_ones_are_quick_again(self):
        for text, _ in SLOW:
            term = term_in(text)
            self.assertEqual(quickened(slowed(term)), quickened(term), text)

    def test_far_deeper_than_what_is_handed_in(self):
        term = ("num", 1)
        for _ in range(2000):
            term = ("handle", "deep", term, ("x", ("name", "x")), (("get", "quick", "u", "", ("name", "u")),))
        slow = slowed(term)
        self.assertEqual(len(quick_ones(term)), 2000)
        self.assertEqual(quick_ones(slow), [])
        self.assertEqual(text_of(quickened(slow)), text_of(term))


class QuickOnesTest(unittest.TestCase):
    def test_by_hand(self):
        for text, ones in ONES:
            told = quick_ones(term_in(text))
            self.assertEqual(told, ones, text)
            self.assertIs(type(told), list)

    def test_places_are_those_of_the_term(self):
        for text, _ in ONES:
            term = term_in(text)
            self.assertLessEqual(set([place for place, _ in quick_ones(term)]), set(places_of(term)))


class TogetherTest(unittest.TestCase):
    def test_the_term_stays(self):
        for term in [*TERMS, *[term_in(text) for text, _ in [*SLOW, *QUICK, *ONES]]]:
            before = frozen(term)
            slowed(term=term)
            quickened(term=term)
            quick_ones(term=term).append(7)
            self.assertEqual(frozen(term), before)
            self.assertNotIn(7, quick_ones(term))
            self.assertEqual(names_free(slowed(term)), names_free(term))
            self.assertEqual(names_free(quickened(term)), names_free(term))

    def test_the_same_is_told_of_all_three(self):
        quick = 0
        for seed in range(1500):
            maker = Maker(seed)
            term = maker.closed(maker.one_of([6, 8, 9]))
            slow, fast = slowed(term), quickened(term)
            self.assertTrue(are_like(quickened(slow), fast))
            most = maker.one_of([100, 100, 9])
            answers = tuple([maker.one_of([0, 1, 2, (1, 2)]) for _ in range(3)])
            told = [told_of(each, answers=answers, most=most) for each in (term, slow, fast)]
            self.assertEqual(told[1:], told[:1] * 2, term)
            machines = [self.run_out(each, answers, most) for each in (fast, term, slow)]
            for machine in machines:
                self.assertEqual((machine.outcome(), machine.trace()), told[0])
                self.assertEqual(machine.counts(), machines[0].counts())
            for left, right in zip(machines, machines[1:]):
                self.assertLessEqual(left.steps(), right.steps())
                self.assertLessEqual(left.moved(), right.moved())
            quick += machines[0].steps() < machines[2].steps() and machines[0].moved() < machines[2].moved()
        self.assertGreater(quick, 100)

    def run_out(self, term, answers, most):
        machine = Machine(rows_of(term), most=most)
        machine.run()
        for value in answers:
            if machine.outcome()[0] == "asks":
                machine.answer(value)
                machine.run()
        return machine

    def test_a_quick_answer_moves_nothing(self):
        term = term_in("deep plus ask get 1 ask get 2 x x 1 quick get u plus u 1")
        quick, slow = self.run_out(term, (), 100), self.run_out(slowed(term), (), 100)
        self.assertEqual((quick.moved(), slow.moved()), (0, 4))
        # get k and call, of each ask.
        self.assertEqual(slow.steps() - quick.steps(), 2 * 2)
        self.assertEqual(quick.outcome(), slow.outcome())


if __name__ == "__main__":
    unittest.main()
