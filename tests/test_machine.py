"""machine.py ([15]), but for images."""

import unittest

from handledeeds.errors import NotAsked
from handledeeds.limits import MOST
from handledeeds.machine import Machine, told_by
from handledeeds.rows import rows_of
from handledeeds.terms import answerers_free, names_free
from handledeeds.termtext import term_in
from handledeeds.treerun import TreeRun, told_of
from tests.chance import Maker
from tests.slowmachine import SlowMachine
from tests.test_treerun import RUNS, ask, clean, done


def machine_for(text, most=MOST):
    return Machine(rows_of(term_in(text)), most=most)


def run_out(machine, answers=()):
    """Row by row to where it stops for good: the list of depths behind each row."""
    depths = []
    waiting = list(answers)
    while True:
        if machine.go(steps=1) == 1:
            depths.append(machine.depth())
        elif machine.outcome()[0] == "asks" and waiting:
            machine.answer(waiting.pop(0))
        else:
            return depths


# A text, and how deep it is behind each row; how many were moved. What's said beside tells the rows.
DEPTHS = [
    ("7", [1, 1], 0),
    # handle, T, leave, U, back, end
    ("deep 1 x x 0", [2, 2, 1, 1, 1, 1], 0),
    ("under h shallow 1 x x 0 x x 0", [2, 3, 3, 2, 2, 2, 1, 1, 1, 1], 0),
    # num, ask, V's get, back: it's put where was asked; leave ..
    ("deep ask get 1 x x 1 quick get u u", [2, 2, 1, 1, 2, 1, 1, 1, 1], 0),
    ("deep deep ask get 1 x x 0 x x 1 quick get u u", [2, 3, 3, 1, 1, 3, 2, 2, 2, 1, 1, 1, 1], 0),
    # V: get k, get u, call; leave, U, back, V's back, end
    ("deep ask get 1 x x 1 many get u k call k u", [2, 2, 1, 1, 1, 2, 1, 1, 1, 1, 1], 2),
    ("deep deep ask get 1 x x 0 x x 1 many get u k call k u", [2, 3, 3, 1, 1, 1, 3, 2, 2, 2, 1, 1, 1, 1, 1], 4),
    # A shallow one isn't put back, but counted; its leave tells who went on.
    ("shallow ask get 1 x x 1 many get u k call k u", [2, 2, 1, 1, 1, 1, 1, 1, 1], 2),
    ("shallow deep ask get 1 x x 0 x x 1 many get u k call k u", [2, 3, 3, 1, 1, 1, 2, 1, 1, 1, 1, 1, 1], 4),
    ("deep ask get 1 x x 1 many get u k u", [2, 2, 1, 1, 1, 1], 1),
    # end: gone as it, or cleaning for it, begins. handle, ward, num, ask, U's num, back; V, back, end
    ("deep ask get 1 x x 1 end get u u", [2, 2, 1, 1, 1, 1], 0),
    ("deep ward ask get 1 2 x x 1 end get u u", [2, 2, 2, 1, 1, 1, 1, 1, 1], 0),
    # What waits for quick isn't counted, but what's come to in V is.
    ("deep ask get 1 x x 1 quick get u deep u x x 0", [2, 2, 1, 2, 2, 1, 1, 1, 2, 1, 1, 1, 1], 0),
    # What waits in what's moved isn't counted.
    ("deep deep ask get 1 x x 1 quick get u ask stop u x x 1 many stop u k call k u",
     [2, 3, 3, 2, 2, 1, 1, 1, 2, 3, 2, 2, 2, 1, 1, 1, 1, 1], 2),
    # Asked from without nothing is gone.
    ("deep ask get 1 x x 0", [2, 2, 2], 0),
]


class RunTest(unittest.TestCase):
    def test_the_runs_of_trees(self):
        for text, outcome, trace, counts in RUNS:
            with self.subTest(text):
                machine = machine_for(text)
                self.assertEqual(machine.run(), outcome)
                self.assertEqual((machine.outcome(), machine.trace(), machine.counts()), (outcome, trace, counts))
                self.assertEqual(told_by(rows_of(term_in(text))), (outcome, trace))
                self.assertEqual((machine.go(), machine.run()), (0, outcome))

    def test_row_by_row(self):
        for text, outcome, trace, counts in RUNS:
            whole, machine = machine_for(text), machine_for(text)
            whole.run()
            self.assertEqual((machine.steps(), machine.moved(), machine.depth()), (0, 0, 1))
            while machine.go(steps=1) == 1:
                self.assertEqual(machine.trace(), trace[:len(machine.trace())])
            self.assertEqual((machine.outcome(), machine.trace(), machine.counts()), (outcome, trace, counts))
            self.assertEqual((machine.steps(), machine.moved(), machine.depth()), (whole.steps(), whole.moved(), whole.depth()))

    def test_however_steps_are_cut(self):
        for text, outcome, trace, counts in RUNS:
            whole = machine_for(text)
            whole.run()
            for steps in (2, 3, 7, 50):
                machine = machine_for(text)
                told = []
                while True:
                    told.append(machine.go(steps=steps))
                    if told[-1] == 0:
                        break
                self.assertEqual(told[:-2], [steps] * (len(told) - 2))
                self.assertEqual(sum(told), whole.steps())
                self.assertEqual((machine.outcome(), machine.trace(), machine.counts()), (outcome, trace, counts))

    def test_programs_by_chance_as_trees_and_in_another_way(self):
        outcomes = {}
        for seed in range(3000):
            maker = Maker(seed)
            term = maker.closed(maker.one_of([4, 6, 8, 9]))
            if seed % 4 == 0:
                other = maker.changed(term)
                term = term if names_free(other) or answerers_free(other) else other
            most = maker.one_of([100, 100, 12, 5])
            answers = tuple([maker.one_of([0, 1, 2, (1, 2), (3, 4)]) for _ in range(maker.one_of([0, 3, 20]))])
            machine = Machine(rows_of(term), most=most)
            depths = run_out(machine, answers)
            slow = SlowMachine(term, answers, most)
            outcome = slow.run()
            told = (machine.outcome(), machine.trace())
            self.assertEqual(told, (outcome, slow.trace), term)
            self.assertEqual(told, told_of(term, answers=answers, most=most))
            self.assertEqual(told, told_by(rows_of(term), answers=answers, most=most))
            self.assertEqual(machine.counts(), (slow.calls, slow.asks))
            self.assertEqual((machine.steps(), machine.moved(), depths), (slow.rows, slow.moved, slow.depths), term)
            outcomes[outcome[:2] if outcome[0] == "stuck" else outcome[0]] = True
        words = [("stuck", word) for word in ("call", "number", "pair", "answerer")]
        self.assertLessEqual({"done", "asks", "long", *words}, set(outcomes))


class StepsTest(unittest.TestCase):
    def test_go(self):
        machine = machine_for("plus 1 times 2 3")
        self.assertEqual((machine.go(steps=0), machine.steps()), (0, 0))
        self.assertEqual((machine.go(steps=1), machine.steps()), (1, 1))
        self.assertEqual((machine.go(steps=3), machine.steps()), (3, 4))
        self.assertEqual((machine.go(steps=50), machine.steps(), machine.outcome()), (2, 6, done(7)))
        self.assertEqual((machine.go(steps=50), machine.steps()), (0, 6))

    def test_steps_where_nothing_is_told(self):
        text = "call rec f n if n call f less n 1 7 60"
        whole = machine_for(text, 200)
        whole.run()
        # rec, num, call; a call's rows, and behind it to and back; the last one's; end.
        self.assertEqual(whole.steps(), 3 + 60 * (7 + 2) + 4 + 1)
        text = "call rec f n if n call f less n 1 7 150"
        machine = machine_for(text, 200)
        self.assertEqual(machine.go(), 1000)
        self.assertEqual(machine.outcome(), ("going",))
        self.assertLess(machine.go(), 1000)
        self.assertEqual(machine.outcome(), done(7))

    def test_asked_from_without(self):
        machine = machine_for("plus ask get 1 5")
        self.assertEqual(machine.go(steps=1), 1)
        self.assertEqual(machine.outcome(), ("going",))
        # The ask is a row done; what's answered is none.
        self.assertEqual((machine.go(), machine.steps(), machine.outcome()), (1, 2, ("asks", "get", 1)))
        self.assertEqual((machine.go(), machine.steps()), (0, 2))
        machine.answer(7)
        self.assertEqual((machine.steps(), machine.outcome()), (2, ("going",)))
        self.assertEqual((machine.go(), machine.steps(), machine.outcome()), (3, 5, done(12)))

    def test_what_is_stuck_or_too_long_is_not_done(self):
        for text, most, steps, outcome in (
                ("call 1 2", 100, 2, ("stuck", "call")), ("plus 1 fun x x", 100, 2, ("stuck", "number")), ("first 1", 100, 1, ("stuck", "pair")),
                ("if fun x x 1 2", 100, 1, ("stuck", "number")), ("under h askof h put 1 x x 0", 100, 2, ("stuck", "answerer")),
                ("call fun x x 1", 0, 2, ("long",)), ("ask get 1", 0, 1, ("long",)), ("under h askof h put 1 x x 1 end put u u", 0, 2, ("long",)),
                ("deep ask get 1 x x 1 many get u k plus call k 1 plus call k 2 call k 3", 1, 17, ("long",)),
                ("let x " + "two 1 " * 14 + "1 two x two x x", 100, 34, ("long",))):
            machine = machine_for(text, most)
            self.assertEqual(machine.run(), outcome, text)
            self.assertEqual(machine.steps(), steps, text)
            again = machine_for(text, most)
            # Ahead of that row nothing is told of it.
            self.assertEqual((again.go(steps=steps), again.outcome()), (steps, ("going",)))
            self.assertEqual((again.go(steps=1), again.outcome()), (0, outcome))

    def test_quick_answers_that_go_on_too_often(self):
        text = "deep deep plus 1 ask get 1 x x 1 quick get u ask stop 4 x x 1 many stop u k plus call k 10 plus call k 10 call k 10"
        machine = machine_for(text, 3)
        self.assertEqual((machine.run(), machine.counts()), (done(33), (0, 2)))
        machine = machine_for(text, 2)
        self.assertEqual((machine.run(), machine.counts()), (("long",), (0, 2)))

    def test_rows_of_wards(self):
        # ward, T, unward, U, back, end
        self.assertEqual(self.steps("ward 1 2"), 6)
        # handle, ward, num, ask; U, back; V, back; end
        self.assertEqual(self.steps("deep ward ask get 1 2 x x 1 end get u u"), 9)
        self.assertEqual(self.steps("deep ward ward ask get 1 2 3 x x 1 end get u u"), 12)

    def test_rows_of_all_else(self):
        for text, steps in (("7", 2), ("fun x x", 2), ("call fun x x 1", 6), ("let x 1 x", 5), ("if 1 2 3", 5), ("if 0 2 3", 4), ("two 1 2", 4),
                            ("first two 1 2", 5), ("past get 1", 4), ("under h pastof h 1 x x 0", 8), ("plus 1 2", 4)):
            self.assertEqual(self.steps(text), steps, text)

    def steps(self, text):
        machine = machine_for(text)
        machine.run()
        return machine.steps()


class DepthTest(unittest.TestCase):
    def test_depth_behind_each_row_and_moved(self):
        for text, depths, moved in DEPTHS:
            machine = machine_for(text)
            self.assertEqual(machine.depth(), 1)
            self.assertEqual(run_out(machine), depths, text)
            self.assertEqual(machine.moved(), moved, text)

    def test_moved_by_each_that_goes_on(self):
        text = "deep deep ask get 1 x x 0 x x 1 many get u k plus call k u plus call k u call k u"
        machine = machine_for(text)
        machine.run()
        self.assertEqual(machine.moved(), 2 + 3 * 2)
        # Of one that's called, too; one that ends moves nothing.
        machine = machine_for("under h deep askof h get 1 x x 0 x x 1 many get u k call k u")
        machine.run()
        self.assertEqual(machine.moved(), 4)
        machine = machine_for("deep deep ask get 1 x x 0 x x 1 end get u u")
        machine.run()
        self.assertEqual(machine.moved(), 0)


class OutcomeTest(unittest.TestCase):
    def test_ahead_of_the_end_row_it_goes_on(self):
        for text, rows in (("7", 1), ("two 1 2", 3), ("fun x x", 1), ("plus 1 2", 3)):
            machine = machine_for(text)
            self.assertEqual(machine.outcome(), ("going",))
            self.assertEqual((machine.go(steps=rows), machine.outcome()), (rows, ("going",)))
            self.assertEqual(machine.go(), 1)
            self.assertEqual(machine.outcome()[0], "done")

    def test_where_it_does_not_wait(self):
        for text in ("7", "call 1 2", "call rec f x call f x 1", "ask get 1"):
            machine = machine_for(text)
            with self.assertRaises(NotAsked) as caught:
                machine.answer(1)
            self.assertEqual(caught.exception.number, 0)
            machine.go(steps=1)
            with self.assertRaises(NotAsked):
                machine.answer(1)
            machine.run()
            told = (machine.outcome(), machine.trace(), machine.counts(), machine.steps())
            if machine.outcome()[0] == "asks":
                machine.answer(1)
            with self.assertRaises(NotAsked):
                machine.answer(1)
            self.assertEqual(machine.trace(), told[1])
        self.assertEqual(told, (("asks", "get", 1), [ask("get", 1)], (0, 1), 2))

    def test_answers(self):
        rows = rows_of(term_in("two ask get 1 two ask get 2 ask get 3"))
        asks = [ask("get", n) for n in (1, 2, 3)]
        self.assertEqual(told_by(rows), (("asks", "get", 1), asks[:1]))
        self.assertEqual(told_by(rows, answers=(7,)), (("asks", "get", 2), asks[:2]))
        self.assertEqual(told_by(rows=rows, answers=(7, 8, 9), most=100), (done((7, (8, 9))), asks))
        self.assertEqual(told_by(rows, answers=(7, (8, 8), 9, 10, 11)), (done((7, ((8, 8), 9))), asks))
        self.assertEqual(told_by(rows, answers=(7, 8, 9), most=2), (("long",), asks[:2]))
        four = (((1, 2), (3, 4)), ((1, 2), (3, 4)))
        rows = rows_of(term_in("let x ask get 1 two x two x two 1 two x 7"))
        self.assertEqual(told_by(rows, answers=(four,))[0], done((four, (four, (1, (four, 7))))))
        self.assertEqual(told_by(rows_of(term_in("let x ask get 1 two x two x two x x")), answers=(four,))[0], ("long",))

    def test_asked_within_and_without(self):
        text = "deep ward plus ask stop 1 10 ask out 2 x x 1 end stop u plus ask out u 5"
        self.assertEqual(told_by(rows_of(term_in(text)), answers=(20, 30)),
                         (done(35), [ask("stop", 1), ask("out", 2), clean(20), ask("out", 1)]))


class OwnTest(unittest.TestCase):
    def test_rows_changed_behind(self):
        rows = rows_of(term_in("plus 1 2"))
        machine = Machine(rows=rows)
        other = machine.like()
        rows.clear()
        self.assertEqual((machine.run(), other.run()), (done(3), done(3)))

    def test_told_lists_are_the_askers_own(self):
        machine = machine_for("ward ask get 1 2")
        machine.run()
        machine.trace().clear()
        self.assertEqual(machine.trace(), [ask("get", 1)])
        self.assertIsNot(machine.trace(), machine.trace())
        rows = rows_of(term_in("ask get 1"))
        told_by(rows)[1].clear()
        self.assertEqual(told_by(rows), (("asks", "get", 1), [ask("get", 1)]))

    def test_names_of_arguments(self):
        with self.assertRaises(TypeError):
            Machine([("num", 1), ("end",)], 5)
        with self.assertRaises(TypeError):
            machine_for("7").go(5)
        with self.assertRaises(TypeError):
            told_by([("num", 1), ("end",)], ())
        machine = machine_for("ask get 1")
        machine.run()
        machine.answer(value=5)
        self.assertEqual(machine.run(), done(5))

    def test_as_a_tree_that_is_asked_step_by_step(self):
        text = "deep plus ask get 1 plus ask out 2 ask get 3 x two x x 1 many get u k plus call k u 1"
        tree, machine = TreeRun(term_in(text)), machine_for(text)
        for answer in (5, 6, 7, 8, 9):
            self.assertEqual(machine.run(), tree.run())
            self.assertEqual((machine.trace(), machine.counts()), (tree.trace(), tree.counts()))
            if tree.outcome()[0] == "asks":
                tree.answer(answer)
                machine.answer(answer)


if __name__ == "__main__":
    unittest.main()
