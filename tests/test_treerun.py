"""treerun.py ([12], [13]): runs, but for the trees that they tell."""

import unittest

from handledeeds.errors import NoAnswerer, NoName, NotAsked
from handledeeds.limits import MOST
from handledeeds.termtext import term_in
from handledeeds.treerun import TreeRun, told_of
from tests.chance import Maker
from tests.samples import frozen
from tests.slowtree import slow_run
from handledeeds.terms import answerers_free, names_free


def ask(deed, told):
    return ("ask", deed, told)


def clean(told):
    return ("clean", told)


def done(told):
    return ("done", told)


# A text, what it comes to with no answers from without, its trace, its counts (calls, asks).
RUNS = [
    # num, fun, rec, two
    ("7", done(7), [], (0, 0)), ("fun x x", done("fun"), [], (0, 0)), ("rec f x call f x", done("fun"), [], (0, 0)),
    ("two 1 two fun x x 2", done((1, ("fun", 2))), [], (0, 0)), ("fun x ask get call 1 2", done("fun"), [], (0, 0)),
    # call
    ("call fun x plus x 1 2", done(3), [], (1, 0)), ("call fun x 5 2", done(5), [], (1, 0)),
    ("call call fun x fun y less x y 9 4", done(5), [], (2, 0)), ("call fun x call fun x x 3 4", done(3), [], (2, 0)),
    ("call rec f x if x plus x call f less x 1 0 4", done(10), [], (5, 0)), ("call rec f x f 1", done("fun"), [], (1, 0)),
    ("call rec f x two x fun y f 1", done((1, "fun")), [], (1, 0)),
    # let, op, if, first, second
    ("let x plus 1 2 times x x", done(9), [], (0, 0)), ("let x 1 let x plus x 1 x", done(2), [], (0, 0)),
    ("let x 1 let f fun y x let x 2 call f 0", done(1), [], (1, 0)),
    ("plus 996 1", done(0), [], (0, 0)), ("plus 500 500", done(3), [], (0, 0)), ("less 1 2", done(996), [], (0, 0)),
    ("less 0 996", done(1), [], (0, 0)), ("times 996 996", done(1), [], (0, 0)), ("times 500 2", done(3), [], (0, 0)),
    ("below 1 2", done(1), [], (0, 0)), ("below 2 2", done(0), [], (0, 0)), ("below 3 2", done(0), [], (0, 0)),
    ("if 1 2 3", done(2), [], (0, 0)), ("if 0 2 3", done(3), [], (0, 0)), ("if 996 2 call 1 2", done(2), [], (0, 0)),
    ("first two 1 2", done(1), [], (0, 0)), ("second two 1 two 2 3", done((2, 3)), [], (0, 0)),
    # The leftmost innermost first.
    ("deep plus ask get 1 ask get 2 x x 1 quick get u times u 10", done(30), [ask("get", 1), ask("get", 2)], (0, 2)),
    ("deep call ask get 1 ask put 2 x x 2 quick get u fun y plus y u quick put u u", done(3), [ask("get", 1), ask("put", 2)], (1, 2)),
    ("deep two ask get 1 ask get ask get 2 x x 1 quick get u plus u 1", done((2, 4)), [ask("get", 1), ask("get", 2), ask("get", 3)], (0, 3)),
    ("deep if ask get 0 ask get 1 ask get 2 x x 1 quick get u u", done(2), [ask("get", 0), ask("get", 2)], (0, 2)),
    # handle: x in U, U around no more.
    ("deep 1 x plus x 1 0", done(2), [], (0, 0)), ("shallow 1 x plus x 1 0", done(2), [], (0, 0)),
    ("under h 1 x plus x 1 0", done(2), [], (0, 0)),
    ("deep 1 x ask get x 1 quick get u 9", ("asks", "get", 1), [ask("get", 1)], (0, 1)),
    ("deep deep 1 x ask get x 1 quick get u 9 x x 1 quick get u 8", done(8), [ask("get", 1)], (0, 1)),
    # quick
    ("deep plus 1 ask get 2 x times x 10 1 quick get u plus u 3", done(60), [ask("get", 2)], (0, 1)),
    ("deep plus ask get 1 plus ask get 2 ask get 3 x x 1 quick get u times u u", done(14), [ask("get", n) for n in (1, 2, 3)], (0, 3)),
    # many: never, once, twice; in a deep one it stands around again.
    ("deep plus 1 ask get 2 x times x 10 1 many get u k u", done(2), [ask("get", 2)], (0, 1)),
    ("deep plus 1 ask get 2 x times x 10 1 many get u k call k u", done(30), [ask("get", 2)], (0, 1)),
    ("deep plus 1 ask get 2 x times x 10 1 many get u k plus call k 0 call k u", done(40), [ask("get", 2)], (0, 1)),
    ("deep two ask get 1 ask get 2 x x 1 many get u k two call k 3 call k 4",
     done((((3, 3), (3, 4)), ((4, 3), (4, 4)))), [ask("get", 1), ask("get", 2), ask("get", 2)], (0, 3)),
    ("call deep ask get 1 x fun s two x s 1 many get u k fun s call call k s plus s 1 5", done((5, 6)), [ask("get", 1)], (2, 1)),
    # What's kept goes its own way each time, also when it's gone on with from elsewhere and later.
    ("let k deep fun z plus z ask get 1 x x 1 many get u k k 7", done(7), [], (0, 0)),
    ("let k deep plus 10 ask get 1 x times x 2 1 many get u k k two call k 1 call k 2", done((22, 24)), [ask("get", 1)], (0, 1)),
    ("let k deep let y ask get 1 let z plus y 1 plus z ask get 2 x x 1 many get u k k call call k 5 3", done(9),
     [ask("get", 1), ask("get", 2)], (0, 2)),
    # A shallow one is gone as its clause begins, and doesn't stand around what's kept.
    ("shallow plus ask get 1 ask get 2 x x 1 many get u k call k 5", ("asks", "get", 2), [ask("get", 1), ask("get", 2)], (0, 2)),
    ("deep shallow plus ask get 1 ask get 2 x 50 1 many get u k call k 5 x x 1 quick get u 9", done(14), [ask("get", 1), ask("get", 2)], (0, 2)),
    ("shallow plus 1 ask get 2 x 50 1 many get u k u", done(2), [ask("get", 2)], (0, 1)),
    ("shallow plus 1 ask get 2 x 50 1 many get u k call k 5", done(6), [ask("get", 2)], (0, 1)),
    ("shallow plus 1 ask get 2 x 50 1 end get u plus u 1", done(3), [ask("get", 2)], (0, 1)),
    ("call rec h f shallow call f 0 x x 1 many get u k call h fun y call k u fun z plus ask get 1 ask get 2", done(3),
     [ask("get", 1), ask("get", 2)], (6, 2)),
    # end
    ("deep plus 1 ask get 2 x times x 10 1 end get u plus u 3", done(5), [ask("get", 2)], (0, 1)),
    ("plus 1 deep call 1 ask get 2 x x 1 end get u u", done(3), [ask("get", 2)], (0, 1)),
    # A clause asks what stands around its answerer.
    ("deep ask get 1 x x 1 quick get u ask get plus u 1", ("asks", "get", 2), [ask("get", 1), ask("get", 2)], (0, 2)),
    ("deep deep ask get 1 x x 1 quick get u ask get plus u 1 x x 1 quick get u times u 10", done(20), [ask("get", 1), ask("get", 2)], (0, 2)),
    ("deep deep ask get 1 x plus x 5 1 many get u k call k ask get plus u 1 x x 1 quick get u times u 10", done(25),
     [ask("get", 1), ask("get", 2)], (0, 2)),
    ("deep deep ask get 1 x plus x 5 1 end get u ask get plus u 1 x x 1 quick get u times u 10", done(20), [ask("get", 1), ask("get", 2)], (0, 2)),
    ("deep deep ask get 1 x 7 1 quick get u ask stop u x x 1 end stop u plus u 3", done(4), [ask("get", 1), ask("stop", 1)], (0, 2)),
    # A deed of no clause goes on out.
    ("deep deep ask get 1 x x 1 quick put u 9 x x 1 quick get u 8", done(8), [ask("get", 1)], (0, 1)),
    ("deep ask get ask put 1 x x 2 quick get u plus u 1 quick put u times u 5", done(6), [ask("put", 1), ask("get", 5)], (0, 2)),
    # past: of none it's asked from without; over one, two, three.
    ("past get 1", done(1), [], (0, 0)), ("past get ask get 1", ("asks", "get", 1), [ask("get", 1)], (0, 1)),
    ("deep past get ask get 1 x x 1 quick get u 9", ("asks", "get", 1), [ask("get", 1)], (0, 1)),
    ("deep deep past get ask get 1 x x 1 quick get u 9 x x 1 quick get u 8", done(8), [ask("get", 1)], (0, 1)),
    ("deep deep deep past get past get ask get 1 x x 1 quick get u 9 x x 1 quick get u 8 x x 1 quick get u 7", done(7), [ask("get", 1)], (0, 1)),
    ("deep deep deep deep past get past get past get ask get 1 x x 1 quick get u 9 x x 1 quick get u 8 x x 1 quick get u 7 x x 1 quick get u 6",
     done(6), [ask("get", 1)], (0, 1)),
    ("deep deep past stop ask get 1 x x 1 quick get u 9 x x 1 quick get u 8", done(9), [ask("get", 1)], (0, 1)),
    ("deep past get deep ask get 1 x x 1 quick get u 9 x x 1 quick get u 8", done(9), [ask("get", 1)], (0, 1)),
    ("deep past get deep past get ask get 1 x x 1 quick get u 9 x x 1 quick get u 8", ("asks", "get", 1), [ask("get", 1)], (0, 1)),
    ("deep deep past get deep past get ask get 1 x x 1 quick get u 9 x x 1 quick get u 8 x x 1 quick get u 7", done(7), [ask("get", 1)], (0, 1)),
    ("deep deep past get deep ask get 1 x x 1 quick put u 9 x x 1 quick get u 8 x x 1 quick get u 7", done(7), [ask("get", 1)], (0, 1)),
    ("deep deep plus past get ask get 1 ask get 2 x x 1 quick get u 9 x x 1 quick get u 8", done(17), [ask("get", 1), ask("get", 2)], (0, 2)),
    ("deep past get under h ask get 1 x x 1 quick get u 9 x x 1 quick get u 8", ("asks", "get", 1), [ask("get", 1)], (0, 1)),
    # A past of what's kept stands in it, as often as it's gone on with.
    ("deep deep past get plus ask get 1 ask get 2 x x 1 quick get u 9 x x 1 many get u k call k plus u 10", done(23),
     [ask("get", 1), ask("get", 2)], (0, 2)),
    # So does that of a shallow one, and where it isn't any more nothing is passed.
    ("deep deep shallow past get plus ask put 1 ask get 2 x x 1 many put u k call k u x x 1 quick get u 9 x x 1 quick get u 8", done(9),
     [ask("put", 1), ask("get", 2)], (0, 2)),
    ("deep plus deep past get ask put 1 x x 1 many put u k call k u ask get 2 x x 1 quick get u 8", done(9), [ask("put", 1), ask("get", 2)], (0, 2)),
    ("deep plus shallow past get ask put 1 x x 1 many put u k call k u ask get 2 x x 1 quick get u 8", done(9), [ask("put", 1), ask("get", 2)], (0, 2)),
    # ward
    ("ward 1 2", done(1), [clean(2)], (0, 0)), ("ward fun x x two 1 2", done("fun"), [clean((1, 2))], (0, 0)),
    ("ward ward 1 2 ward 3 4", done(1), [clean(2), clean(4), clean(3)], (0, 0)),
    ("deep ward plus 1 ask get 2 plus 3 ask get 4 x x 1 quick get u u", done(3), [ask("get", 2), ask("get", 4), clean(7)], (0, 2)),
    # end: the wards within are cleaned, inner ones first, then the clause.
    ("deep ward ask stop 1 2 x x 1 end stop u ask get u", ("asks", "get", 1), [ask("stop", 1), clean(2), ask("get", 1)], (0, 2)),
    ("deep ward plus 1 ward ask stop 1 2 3 x x 1 end stop u u", done(1), [ask("stop", 1), clean(2), clean(3)], (0, 1)),
    ("ward deep ward ask stop 1 2 x x 1 end stop u u 3", done(1), [ask("stop", 1), clean(2), clean(3)], (0, 1)),
    ("deep ward two ward 5 6 ask stop 1 2 x x 1 end stop u u", done(1), [clean(6), ask("stop", 1), clean(2)], (0, 1)),
    ("deep let x 4 ward let y plus x 1 ward ask stop y times y 2 plus x 3 x x 1 end stop u u", done(5),
     [ask("stop", 5), clean(10), clean(7)], (0, 1)),
    # The U of a dropped ward is run in the place of the answerer.
    ("deep deep ward ask stop 1 ask get 2 x x 2 quick get u 9 end stop u u x x 1 quick get u 8", done(1),
     [ask("stop", 1), ask("get", 2), clean(8)], (0, 2)),
    ("deep deep ward ask stop 1 ask stop 2 x x 1 end stop u u x 50 1 end stop u plus u 3", done(5), [ask("stop", 1), ask("stop", 2)], (0, 2)),
    # What is being cleaned, or is still to be, isn't cleaned when it's dropped.
    ("deep deep ward ward ward ask get 1 2 ask stop 3 4 x x 1 end get u u x x 1 end stop u u", done(3),
     [ask("get", 1), clean(2), ask("stop", 3)], (0, 2)),
    ("deep ward 1 ask stop 2 x x 1 end stop u plus u 5", done(7), [ask("stop", 2)], (0, 1)),
    ("deep ward ward 1 ask stop 2 3 x x 1 end stop u plus u 5", done(7), [ask("stop", 2), clean(3)], (0, 1)),
    ("deep ward 1 ward ask stop 2 3 x x 1 end stop u plus u 5", done(7), [ask("stop", 2), clean(3)], (0, 1)),
    # What's gone on with cleans each time; what's in hand, or waits, isn't cleaned when it's dropped.
    ("deep ward ask get 1 2 x x 1 many get u k 7", done(7), [ask("get", 1)], (0, 1)),
    ("deep ward ask get 1 2 x x 1 many get u k plus call k 3 call k 4", done(7), [ask("get", 1), clean(2), clean(2)], (0, 1)),
    ("deep deep ward ask get 1 2 x x 1 many get u k plus call k 3 ask stop 4 x x 1 end stop u u", done(4),
     [ask("get", 1), clean(2), ask("stop", 4)], (0, 2)),
    ("deep deep ward ask get 1 2 x x 1 many get u k ask stop 4 x x 1 end stop u u", done(4), [ask("get", 1), ask("stop", 4)], (0, 2)),
    ("deep deep ward ask get 1 2 x x 1 quick get u ask stop 4 x x 1 end stop u u", done(4), [ask("get", 1), ask("stop", 4)], (0, 2)),
    ("deep deep ward ask get 1 2 x x 1 quick get u ward ask stop 4 5 x x 1 end stop u u", done(4),
     [ask("get", 1), ask("stop", 4), clean(5)], (0, 2)),
    ("deep ward deep ward ask get 1 2 x x 1 quick get u ask stop 4 3 x x 1 end stop u u", done(4),
     [ask("get", 1), ask("stop", 4), clean(3)], (0, 2)),
    # A quick clause that's taken in hand from further out, and gone on with twice.
    ("deep deep plus 1 ask get 1 x x 1 quick get u plus 10 ask stop 4 x x 1 many stop u k two call k 100 call k 200", done((111, 211)),
     [ask("get", 1), ask("stop", 4)], (0, 2)),
    # A clause's x and k hide none of others; what stands around an answerer stands in its clauses.
    ("let y 5 deep ask get 1 x plus x y 1 quick get u plus u y", done(11), [ask("get", 1)], (0, 1)),
    ("let u 5 deep plus u ask get 1 x x 1 quick get u plus u 100", done(106), [ask("get", 1)], (0, 1)),
    # Called answerers
    ("under h askof h get 1 x plus x 1 1 quick get u times u 5", done(6), [ask("get", 1)], (0, 1)),
    ("under h plus 1 askof h get 1 x plus x 1 1 end get u times u 5", done(5), [ask("get", 1)], (0, 1)),
    ("under h plus 1 askof h get 1 x plus x 1 1 many get u k two call k 3 call k 4", done((5, 6)), [ask("get", 1)], (0, 1)),
    ("under h ask get 1 x x 1 quick get u 9", ("asks", "get", 1), [ask("get", 1)], (0, 1)),
    ("deep under h ask get 1 x x 1 quick get u 9 x x 1 quick get u 8", done(8), [ask("get", 1)], (0, 1)),
    ("under h deep askof h get 1 x x 1 quick get u 9 x x 1 quick get u 8", done(8), [ask("get", 1)], (0, 1)),
    ("under h past get askof h get 1 x x 1 quick get u 8", done(8), [ask("get", 1)], (0, 1)),
    ("under h pastof h askof h get 1 x x 1 quick get u 8", done(8), [ask("get", 1)], (0, 1)),
    ("under h pastof h 1 x x 0", done(1), [], (0, 0)),
    # Nested ones of one name: each its own.
    ("under h under h askof h get 1 x x 1 quick get u 9 x x 1 quick get u 8", done(9), [ask("get", 1)], (0, 1)),
    ("under h let f fun x askof h get x under h call f 1 x x 1 quick get u 9 x x 1 quick get u 8", done(8), [ask("get", 1)], (1, 1)),
    ("under h under g plus askof h get 1 askof g get 2 x x 1 quick get u 9 x x 1 quick get u 80", done(89), [ask("get", 1), ask("get", 2)], (0, 2)),
    # One that's entered anew is another one.
    ("let r rec r f under h if f call f 1 call r fun x askof h get x x x 1 quick get u 9 1", done(1), [], (0, 0)),
    ("call rec r f under h call f fun x askof h get x x x 1 quick get u 9 fun g call g 1", done(9), [ask("get", 1)], (3, 1)),
    # Told out of its answerer it's stuck; so is what's asked in its clause, or in its U.
    ("call under h fun x askof h get x x x 1 quick get u u 1", ("stuck", "answerer"), [], (1, 0)),
    ("under h fun x askof h get x x call x 1 1 quick get u u", ("stuck", "answerer"), [], (1, 0)),
    ("under h askof h put fun x askof h get x x x 2 quick get u u quick put u call u 1", ("stuck", "answerer"), [ask("put", "fun")], (1, 1)),
    ("under h under g askof g put fun x askof h get x x x 1 quick put u call u 1 x x 1 quick get u plus u 7", done(8),
     [ask("put", "fun"), ask("get", 1)], (1, 2)),
    # This very one, but with no clause for it.
    ("under h askof h put 1 x x 1 quick get u u", ("stuck", "answerer"), [], (0, 0)),
    # What's kept and gone on with twice has the same very one in each, each finding its own.
    ("deep under h let y ask get 1 plus y askof h put 10 x x 1 many put u k plus call k u 100 x x 1 many get u k two call k 1 call k 2",
     done((111, 112)), [ask("get", 1), ask("put", 10), ask("put", 10)], (0, 3)),
    ("call deep under h let y ask get 1 fun z askof h put z x x 1 end put u u x x 1 many get u k k 5",
     done("fun"), [ask("get", 1)], (0, 1)),
    # What is told of functions and of what's kept.
    ("ask get two fun x x 1", ("asks", "get", ("fun", 1)), [ask("get", ("fun", 1))], (0, 1)),
    ("deep ask get 1 x x 1 many get u k two k u", done(("fun", 1)), [ask("get", 1)], (0, 1)),
    ("ward 1 fun x x", done(1), [clean("fun")], (0, 0)),
    # Stuck.
    ("call 1 2", ("stuck", "call"), [], (0, 0)), ("call two 1 2 3", ("stuck", "call"), [], (0, 0)),
    ("deep call 1 ask get 2 x x 1 quick get u u", ("stuck", "call"), [ask("get", 2)], (0, 1)),
    ("plus two 1 2 3", ("stuck", "number"), [], (0, 0)), ("plus 1 fun x x", ("stuck", "number"), [], (0, 0)),
    ("below fun x x 1", ("stuck", "number"), [], (0, 0)), ("if two 1 2 3 4", ("stuck", "number"), [], (0, 0)),
    ("if fun x x 3 4", ("stuck", "number"), [], (0, 0)), ("first 1", ("stuck", "pair"), [], (0, 0)),
    ("second fun x x", ("stuck", "pair"), [], (0, 0)), ("plus 1 first 2", ("stuck", "pair"), [], (0, 0)),
    ("deep ask get 1 x x 1 many get u k first k", ("stuck", "pair"), [ask("get", 1)], (0, 1)),
    ("deep ask get 1 x x 1 many get u k plus k 1", ("stuck", "number"), [ask("get", 1)], (0, 1)),
    ("ward first 1 2", ("stuck", "pair"), [], (0, 0)), ("plus two 1 2 call 1 2", ("stuck", "call"), [], (0, 0)),
]


def run_of(text, most=MOST):
    return TreeRun(term_in(text), most=most)


def twos(parts):
    """A term of an odd number of parts, a two of twos."""
    term = ("num", 1)
    for at in range((parts - 1) // 2):
        term = ("two", ("num", 2), term) if at % 2 else ("two", term, ("num", 2))
    return term


def pairs(parts):
    """A text that makes a pair of so many parts by calls."""
    return f"call rec f n if n two 0 call f less n 1 0 {(parts - 1) // 2}"


class RunTest(unittest.TestCase):
    def test_runs(self):
        for text, outcome, trace, counts in RUNS:
            with self.subTest(text):
                run = run_of(text)
                self.assertEqual(run.run(), outcome)
                self.assertEqual((run.outcome(), run.trace(), run.counts()), (outcome, trace, counts))
                self.assertEqual(told_of(term_in(text)), (outcome, trace))
                self.assertIs(run.step(), False)
                self.assertEqual((run.run(), run.trace(), run.counts()), (outcome, trace, counts))

    def test_step_by_step(self):
        for text, outcome, trace, counts in RUNS:
            with self.subTest(text):
                run = run_of(text)
                steps = 0
                while run.step() is True:
                    steps += 1
                    self.assertLess(steps, 200)
                    self.assertEqual(run.trace(), trace[:len(run.trace())])
                self.assertIs(run.step(), False)
                self.assertEqual((run.outcome(), run.trace(), run.counts()), (outcome, trace, counts))

    def test_where_no_further_step_can_be_it_is_known_at_once(self):
        for text, outcome, _, _ in RUNS:
            run = run_of(text)
            going = [run.outcome()]
            while run.step():
                going.append(run.outcome())
            if len(going) > 1:
                self.assertEqual(going[-1], outcome, text)
            self.assertEqual(going[:-1], [("going",)] * (len(going) - 1))

    def test_outcome_ahead_of_any_step(self):
        for text, outcome, _, _ in RUNS:
            run = run_of(text)
            self.assertEqual((run.outcome(), run.trace(), run.counts()), (("going",), [], (0, 0)))
        for text in ("7", "fun x x", "two 1 two 2 fun x x", "rec f x x"):
            run, other = run_of(text), run_of(text)
            run.step()
            self.assertEqual(run.outcome()[0], "done")
            self.assertEqual(other.outcome(), ("going",))
            other.run()
            self.assertEqual(other.outcome(), run.outcome())

    def test_what_stands_for_nothing(self):
        for text, name in (("x", "x"), ("two y x", "x"), ("two askof h get 1 x", "x"), ("fun y two b two y a", "a")):
            with self.assertRaises(NoName) as caught:
                run_of(text)
            self.assertEqual(caught.exception.name, name)
            with self.assertRaises(NoName) as caught:
                told_of(term_in(text))
            self.assertEqual(caught.exception.name, name)
        for text, name in (("askof h get 1", "h"), ("fun x two pastof h x askof g get x", "g"), ("under h 1 x askof h get x 0", "h")):
            with self.assertRaises(NoAnswerer) as caught:
                run_of(text)
            self.assertEqual(caught.exception.name, name)
            with self.assertRaises(NoAnswerer) as caught:
                told_of(term_in(text))
            self.assertEqual(caught.exception.name, name)

    def test_by_name(self):
        term = term_in("two ask get 1 ask get 2")
        self.assertEqual(TreeRun(term=term, most=1).run(), ("asks", "get", 1))
        self.assertEqual(told_of(term=term, answers=(5,), most=1), (("long",), [ask("get", 1)]))
        run = TreeRun(term)
        run.run()
        run.answer(value=5)
        with self.assertRaises(TypeError):
            TreeRun(term, 5)
        with self.assertRaises(TypeError):
            told_of(term, (5,))


class BoundsTest(unittest.TestCase):
    def test_pairs_of_60_parts_and_more(self):
        # A pair has always an odd number of parts.
        for parts in (57, 59):
            self.assertEqual(run_of(pairs(parts)).run()[0], "done")
            self.assertEqual(TreeRun(twos(parts)).run()[0], "done")
        for parts in (61, 63, 119):
            self.assertEqual(TreeRun(twos(parts)).run(), ("long",))
        for parts in (61, 63, 151):
            self.assertEqual(run_of(pairs(parts)).run(), ("long",))
        self.assertEqual(run_of("let x " + "two 1 " * 14 + "1 two x x").run()[0], "done")
        self.assertEqual(run_of("let x " + "two 1 " * 14 + "1 two two x 1 x").run(), ("long",))
        self.assertEqual(run_of("let x " + "two 1 " * 14 + "1 first two two x x 1").run(), ("long",))
        # Of all else it's one.
        text = "let g fun x two 1 two 1 two 1 x call rec f n if n two g call f less n 1 g "
        self.assertEqual((run_of(text + "29").run()[0], run_of(text + "30").run()), ("done", ("long",)))

    def test_calls(self):
        loop = "call rec f x if x call f less x 1 9 "
        for calls in (0, 1, 5, 99):
            run = run_of(loop + str(calls), calls + 1)
            self.assertEqual((run.run(), run.counts()), (done(9), (calls + 1, 0)))
            run = run_of(loop + str(calls), calls)
            self.assertEqual((run.run(), run.counts()), (("long",), (calls, 0)))
        self.assertEqual(run_of(loop + "99").run(), done(9))
        self.assertEqual(run_of(loop + "100").run(), ("long",))
        self.assertEqual(told_of(term_in(loop + "100"), most=101), (done(9), []))

    def test_asks_and_both_together(self):
        text = "deep plus ask get 1 call fun x ask get x 2 x x 1 quick get u u"
        self.assertEqual(run_of(text, 3).run(), done(3))
        for most, trace, counts in ((2, [ask("get", 1)], (1, 1)), (1, [ask("get", 1)], (0, 1)), (0, [], (0, 0))):
            run = run_of(text, most)
            self.assertEqual((run.run(), run.trace(), run.counts()), (("long",), trace, counts))
        run = run_of("under h askof h get 1 x x 1 quick get u u", 0)
        self.assertEqual((run.run(), run.trace(), run.counts()), (("long",), [], (0, 0)))
        run = run_of("ask get 1", 0)
        self.assertEqual((run.run(), run.trace(), run.counts()), (("long",), [], (0, 0)))

    def test_stuck_ahead_of_too_long(self):
        self.assertEqual(run_of("call 1 2", 0).run(), ("stuck", "call"))
        run = run_of("call under h fun x askof h get x x x 1 quick get u u 1", 1)
        self.assertEqual((run.run(), run.counts()), (("stuck", "answerer"), (1, 0)))
        self.assertEqual(run_of("under h askof h put 1 x x 1 quick get u u", 0).run(), ("stuck", "answerer"))
        self.assertEqual(run_of("call under h fun x askof h get x x x 1 quick get u u 1", 0).run(), ("long",))

    def test_going_on_with_what_is_kept_twice_most(self):
        for most in (1, 2, 7):
            for times, told in ((2 * most, done(2 * most)), (2 * most + 1, ("long",))):
                text = "deep ask get 1 x x 1 many get u k " + "plus call k 1 " * (times - 1) + "call k 1"
                run = run_of(text, most)
                self.assertEqual(run.run(), told)
                self.assertEqual((run.trace(), run.counts()), ([ask("get", 1)], (0, 1)))

    def test_going_on_by_quick_clauses_twice_most(self):
        # Each time what's kept is gone on with, so is what waits in it.
        for times, most, told in ((2, 2, done(22)), (3, 3, done(33)), (3, 2, ("long",)), (4, 4, done(44)), (5, 4, ("long",))):
            text = "deep deep plus 1 ask get 1 x x 1 quick get u ask stop 4 x x 1 many stop u k " + "plus call k 10 " * (times - 1) + "call k 10"
            run = run_of(text, most)
            self.assertEqual(run.run(), told)
            self.assertEqual(run.counts(), (0, 2))

    def test_calls_of_what_is_kept_are_no_calls(self):
        run = run_of("deep plus ask get 1 ask get 2 x x 1 many get u k call k u", 2)
        self.assertEqual((run.run(), run.counts()), (done(3), (0, 2)))

    def test_a_run_that_never_ends_is_over(self):
        for text in ("call rec f x call f x 1", "call rec f x ask get call f x 1", "call rec f x deep ask get x y call f y 1 quick get u u 1",
                     "deep call rec f x call f ask get x 1 x x 1 many get u k call k u", "call fun x call x x fun x call x x",
                     "call rec f x deep ask get 1 y y 1 many get u k call f two call k u 1 0"):
            run = run_of(text)
            self.assertEqual(run.run(), ("long",))
            self.assertEqual(sum(run.counts()), 100)


class AnswerTest(unittest.TestCase):
    def test_answers_from_without(self):
        run = run_of("plus ask get 1 first ask say 2")
        self.assertEqual(run.run(), ("asks", "get", 1))
        run.answer(996)
        self.assertEqual(run.run(), ("asks", "say", 2))
        run.answer((5, (6, 7)))
        self.assertEqual(run.run(), done(4))
        self.assertEqual((run.trace(), run.counts()), ([ask("get", 1), ask("say", 2)], (0, 2)))

    def test_pairs_to_four_deep(self):
        three = ((1, 2), (3, 4))
        for value in (0, 996, (1, 2), (1, three), (three, (three[0], 0)), (((1, 2), 3), 4)):
            run = run_of("ask get 1")
            run.run()
            run.answer(value)
            self.assertEqual(run.run(), done(value))
        # What's answered has as many parts as such a pair.
        four = (three, three)
        self.assertEqual(told_of(term_in("let x ask get 1 two x two x two 1 two x 7"), answers=(four,))[0][0], "done")
        self.assertEqual(told_of(term_in("let x ask get 1 two x two x two x x"), answers=(four,))[0], ("long",))

    def test_where_it_does_not_wait(self):
        for text in ("7", "ask get 1", "call 1 2", "call rec f x call f x 1", "deep plus ask get 1 1 x x 1 quick get u u"):
            run = run_of(text)
            with self.assertRaises(NotAsked) as caught:
                run.answer(1)
            self.assertEqual(caught.exception.number, 0)
            self.assertEqual(run.outcome(), ("going",))
            while run.step():
                if run.outcome()[0] != "asks":
                    with self.assertRaises(NotAsked):
                        run.answer(1)
            if run.outcome()[0] == "asks":
                run.answer(5)
                with self.assertRaises(NotAsked):
                    run.answer(5)
                self.assertEqual(run.run(), done(5))
            told = (run.run(), run.trace(), run.counts())
            with self.assertRaises(NotAsked):
                run.answer(1)
            self.assertEqual((run.outcome(), run.trace(), run.counts()), told)

    def test_it_waits_till_it_is_answered(self):
        run = run_of("plus 1 ask get 2")
        self.assertEqual(run.run(), ("asks", "get", 2))
        for _ in range(3):
            self.assertIs(run.step(), False)
            self.assertEqual(run.run(), ("asks", "get", 2))
        self.assertEqual((run.trace(), run.counts()), ([ask("get", 2)], (0, 1)))
        run.answer(3)
        self.assertEqual((run.trace(), run.counts()), ([ask("get", 2)], (0, 1)))
        self.assertEqual(run.run(), done(4))

    def test_told_of(self):
        term = term_in("two ask get 1 two ask get 2 ask get 3")
        asks = [ask("get", n) for n in (1, 2, 3)]
        self.assertEqual(told_of(term), (("asks", "get", 1), asks[:1]))
        self.assertEqual(told_of(term, answers=(7,)), (("asks", "get", 2), asks[:2]))
        self.assertEqual(told_of(term, answers=(7, 8, 9)), (done((7, (8, 9))), asks))
        self.assertEqual(told_of(term, answers=(7, (8, 8), 9, 10, 11)), (done((7, ((8, 8), 9))), asks))
        self.assertEqual(told_of(term, answers=(7, 8, 9), most=2), (("long",), asks[:2]))
        self.assertEqual(told_of(term_in("7"), answers=(1, 2)), (done(7), []))

    def test_asks_from_within_clauses_and_wards(self):
        text = "deep ward plus ask stop 1 10 ask out 2 x x 1 end stop u plus ask out u 5"
        self.assertEqual(told_of(term_in(text), answers=(20, 30)),
                         (done(35), [ask("stop", 1), ask("out", 2), clean(20), ask("out", 1)]))
        text = "deep plus 1 ask get 1 x x 1 quick get u times 2 ask out u"
        self.assertEqual(told_of(term_in(text), answers=(20,)), (done(41), [ask("get", 1), ask("out", 1)]))
        # What's asked from without is kept, too, and gone on with.
        text = "deep plus ask get 1 ask out 2 x x 1 many get u k two call k 100 call k 200"
        self.assertEqual(told_of(term_in(text), answers=(3, 4)), (done((103, 204)), [ask("get", 1), ask("out", 2), ask("out", 2)]))


class ToldTest(unittest.TestCase):
    def test_told_lists_are_the_askers_own(self):
        run = run_of("deep ward ask get 1 2 x x 1 quick get u u")
        run.run()
        trace = run.trace()
        again = list(trace)
        trace.clear()
        self.assertEqual(run.trace(), again)
        self.assertIsNot(run.trace(), run.trace())
        told = told_of(term_in("ask get 1"))
        told[1].append(7)
        self.assertEqual(told_of(term_in("ask get 1")), (("asks", "get", 1), [ask("get", 1)]))
        self.assertIs(type(run.counts()), tuple)
        self.assertIs(type(run.outcome()), tuple)

    def test_handed_terms_stay(self):
        for text, _, _, _ in RUNS:
            term = term_in(text)
            before = frozen(term)
            told_of(term)
            self.assertEqual(frozen(term), before)

    def test_like(self):
        text = "deep plus ask get 1 plus ask out 2 ask get 3 x two x x 1 many get u k plus call k u 1"
        for steps in range(25):
            run = run_of(text)
            for _ in range(steps):
                if not run.step() and run.outcome()[0] == "asks":
                    run.answer(50)
            other = run.like()
            self.assertIsNot(other, run)
            self.assertEqual(self.state(other), self.state(run))
            before = self.state(run)
            # What's done to one of both isn't done to the other one.
            told = self.rest(other, 50)
            self.assertEqual(self.state(run), before)
            self.assertEqual(self.rest(run, 50), told)
            self.assertEqual(self.rest(run.like(), 1), self.rest(run, 2))

    def state(self, run):
        return (run.outcome(), run.trace(), run.counts(), run.term())

    def rest(self, run, value):
        while run.run()[0] == "asks":
            run.answer(value)
        return self.state(run)

    def test_like_has_the_same_bounds(self):
        run = run_of("call rec f x call f x 1", 7)
        run.step()
        other = run.like()
        self.assertEqual((other.run(), other.counts()), (("long",), (7, 0)))
        self.assertEqual((run.run(), run.counts()), (("long",), (7, 0)))
        waits = run_of("ask get 1")
        waits.run()
        other = waits.like()
        other.answer(3)
        self.assertEqual((other.run(), waits.outcome()), (done(3), ("asks", "get", 1)))


class ChanceTest(unittest.TestCase):
    def test_as_another_way_to_run_tells(self):
        outcomes = {}
        for seed in range(3000):
            maker = Maker(seed)
            term = maker.closed(maker.one_of([5, 7, 8, 9]))
            if seed % 4 == 0:
                other = maker.changed(term)
                term = term if names_free(other) or answerers_free(other) else other
            most = maker.one_of([100, 100, 12, 5])
            answers = tuple([maker.one_of([0, 1, 2, (1, 2), (3, 4)]) for _ in range(maker.one_of([0, 3, 20]))])
            run = TreeRun(term, most=most)
            run.run()
            for value in answers:
                if run.outcome()[0] == "asks":
                    run.answer(value)
                    run.run()
            told = (run.outcome(), run.trace(), run.counts())
            self.assertEqual(told, slow_run(term, answers, most), term)
            self.assertEqual(told_of(term, answers=answers, most=most), told[:2])
            outcomes[told[0][:2] if told[0][0] == "stuck" else told[0][0]] = True
        words = [("stuck", word) for word in ("call", "number", "pair", "answerer")]
        self.assertLessEqual({"done", "asks", "long", *words}, set(outcomes))

    def test_the_runs_by_hand_in_another_way(self):
        for text, outcome, trace, counts in RUNS:
            self.assertEqual(slow_run(term_in(text)), (outcome, trace, counts), text)


if __name__ == "__main__":
    unittest.main()
