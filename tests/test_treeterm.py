"""term of treerun.py ([13]): the trees that a run tells."""

import unittest

from handledeeds.errors import Clash
from handledeeds.kinds import comes_of
from handledeeds.look import look
from handledeeds.terms import deep_of, is_value, parts_of
from handledeeds.termtext import term_in, text_of
from handledeeds.treerun import TreeRun, told_of
from tests.chance import KINDS, SHEET, Maker
from tests.slowtree import slow_terms

N = "number"

# A text, and the texts of the trees that are told on its way, None where none is told. How much a step
# does isn't promised: trees that are one and the same are here told once.
WAYS = [
    ("7", ["7"]), ("two 1 two 2 fun x x", ["two 1 two 2 fun x x"]), ("rec f x call f x", ["rec f x call f x"]),
    ("plus plus 1 2 plus 3 4", ["plus plus 1 2 plus 3 4", "plus 3 plus 3 4", "plus 3 7", "10"]),
    ("call fun x fun y two x y plus 1 2", ["call fun x fun y two x y plus 1 2", "call fun x fun y two x y 3", "fun y two 3 y"]),
    ("call rec f x if x call f less x 1 9 1",
     ["call rec f x if x call f less x 1 9 1", "if 1 call rec f x if x call f less x 1 9 less 1 1 9",
      "call rec f x if x call f less x 1 9 less 1 1", "call rec f x if x call f less x 1 9 0",
      "if 0 call rec f x if x call f less x 1 9 less 0 1 9", "9"]),
    ("let x two 1 2 let y first x fun x two x y", ["let x two 1 2 let y first x fun x two x y", "let y first two 1 2 fun x two x y",
                                                   "let y 1 fun x two x y", "fun x two x 1"]),
    ("let x 1 let x plus x 1 x", ["let x 1 let x plus x 1 x", "let x plus 1 1 x", "let x 2 x", "2"]),
    ("let f fun x x let x 5 two f x", ["let f fun x x let x 5 two f x", "let x 5 two fun x x x", "two fun x x 5"]),
    ("second two 1 first two 2 3", ["second two 1 first two 2 3", "second two 1 2", "2"]),
    ("let z 5 deep 1 x plus x z 1 many get u k plus z call k u",
     ["let z 5 deep 1 x plus x z 1 many get u k plus z call k u", "deep 1 x plus x 5 1 many get u k plus 5 call k u", "plus 1 5", "6"]),
    ("past get past put plus 1 2", ["past get past put plus 1 2", "past get past put 3", "past get 3", "3"]),
    # An end leaves nothing kept.
    ("deep plus 1 ask get 2 x x 1 end get u plus u 3", ["deep plus 1 ask get 2 x x 1 end get u plus u 3", "plus 2 3", "5"]),
    # What's kept and isn't there any more.
    ("deep plus 1 ask get 2 x x 1 many get u k plus u 3", ["deep plus 1 ask get 2 x x 1 many get u k plus u 3", "plus 2 3", "5"]),
    ("deep plus 1 ask get 2 x x 1 many get u k call k plus u 1",
     ["deep plus 1 ask get 2 x x 1 many get u k call k plus u 1", None, "deep plus 1 3 x x 1 many get u k call k plus u 1",
      "deep 4 x x 1 many get u k call k plus u 1", "4"]),
    # What waits.
    ("deep plus 1 ask get 2 x x 1 quick get u plus u 1",
     ["deep plus 1 ask get 2 x x 1 quick get u plus u 1", None, "deep plus 1 3 x x 1 quick get u plus u 1", "deep 4 x x 1 quick get u plus u 1", "4"]),
    # A ward that's not being cleaned, and one that is.
    ("ward plus 1 2 plus 3 4", ["ward plus 1 2 plus 3 4", "ward 3 plus 3 4", None, "3"]),
    ("let x 1 ward plus x 2 plus x 4", ["let x 1 ward plus x 2 plus x 4", "ward plus 1 2 plus 1 4", "ward 3 plus 1 4", None, "3"]),
    ("deep ward ask get 1 2 x x 1 end get u plus u 3", ["deep ward ask get 1 2 x x 1 end get u plus u 3", None, "plus 1 3", "4"]),
    # An under, not come to as yet, come to, and left.
    ("if 0 1 fun z under h askof h get 1 x x 0", ["if 0 1 fun z under h askof h get 1 x x 0", "fun z under h askof h get 1 x x 0"]),
    ("plus 1 under h plus 2 3 x plus x 1 1 end get u u", ["plus 1 under h plus 2 3 x plus x 1 1 end get u u", None, "plus 1 plus 5 1", "plus 1 6", "7"]),
    ("under h fun x plus x 1 x x 0", ["under h fun x plus x 1 x x 0", "fun x plus x 1"]),
    # Left, and asked or passed in it: never told.
    ("first two 1 under h fun x askof h get x x x 1 end get u u", ["first two 1 under h fun x askof h get x x x 1 end get u u", None, "1"]),
    ("under h fun x askof h get x x x 1 end get u u", ["under h fun x askof h get x x x 1 end get u u", None]),
    ("under h fun x pastof h x x x 0", ["under h fun x pastof h x x x 0", None]),
    ("under h fun x under h askof h get x y y 0 x x 0", ["under h fun x under h askof h get x y y 0 x x 0", "fun x under h askof h get x y y 0"]),
    ("under h fun x under g askof h get x y y 0 x x 0", ["under h fun x under g askof h get x y y 0 x x 0", None]),
    ("under h fun x under h 1 y askof h get x 0 x x 0", ["under h fun x under h 1 y askof h get x 0 x x 0", None]),
    ("call under h fun x askof h get plus x 1 x x 0 1", ["call under h fun x askof h get plus x 1 x x 0 1", None]),
    ("call under h fun x plus 1 pastof h plus x 1 x x 0 1", ["call under h fun x plus 1 pastof h plus x 1 x x 0 1", None, "plus 1 2", "3"]),
    # Stuck, too long, waiting.
    ("plus 1 call 2 3", ["plus 1 call 2 3", None]), ("call first 1 2", ["call first 1 2", None]),
    ("plus 1 ask get 2", ["plus 1 ask get 2", None]),
]


def way_of(text, most=100):
    run = TreeRun(term_in(text), most=most)
    told = [run.term()]
    while run.step():
        told.append(run.term())
    told.append(run.term())
    return told


def distinct(told):
    """The list without what's one and the same as the one ahead."""
    return [one for at, one in enumerate(told) if at == 0 or told[at - 1] != one]


def texts(told):
    return [None if term is None else text_of(term) for term in told]


class TreeTermTest(unittest.TestCase):
    def test_ways(self):
        for text, way in WAYS:
            with self.subTest(text):
                self.assertEqual(texts(distinct(way_of(text))), way)

    def test_ahead_of_any_step_it_is_the_program(self):
        for text, _ in WAYS:
            term = term_in(text)
            run = TreeRun(term)
            self.assertEqual(run.term(), term)
            self.assertEqual(run.term(), run.term())
            self.assertEqual(run.outcome(), ("going",))

    def test_a_run_that_is_over(self):
        for text in ("call rec f x call f x 1", "first 1", "ask get 1", "call under h fun x askof h get x x x 0 1"):
            run = TreeRun(term_in(text))
            self.assertIsNot(run.run()[0], "done")
            self.assertIsNone(run.term())
        run = TreeRun(term_in("plus 1 ask get 2"))
        run.run()
        run.answer(5)
        self.assertEqual(text_of(run.term()), "plus 1 5")
        self.assertEqual(run.run(), ("done", 6))
        self.assertEqual(text_of(run.term()), "6")
        run = TreeRun(term_in("two ask get 1 fun x 1"))
        run.run()
        run.answer(((1, 2), 3))
        self.assertEqual(text_of(run.term()), "two two two 1 2 3 fun x 1")

    def test_what_is_kept_in_what_is_done(self):
        run = TreeRun(term_in("deep ask get 1 x x 1 many get u k k"))
        self.assertEqual(run.run(), ("done", "fun"))
        self.assertIsNone(run.term())
        run = TreeRun(term_in("deep ask get 1 x x 1 many get u k fun y k"))
        self.assertEqual(run.run(), ("done", "fun"))
        self.assertIsNone(run.term())
        run = TreeRun(term_in("deep ask get 1 x x 1 many get u k fun k k"))
        self.assertEqual(run.run(), ("done", "fun"))
        self.assertEqual(text_of(run.term()), "fun k k")

    def test_more_than_300_parts(self):
        # What's put in for x has 29 parts.
        pair = "let x " + "two 1 " * 13 + "two 1 1 "
        for body, parts in ((nested(1), 30), (nested(9), 270), ("first " * 5 + nested(9), 275), (nested(10), 300),
                            ("first " + nested(10), None), (nested(11), None)):
            run = TreeRun(term_in(f"{pair}fun z {body}"))
            self.assertEqual(run.run(), ("done", "fun"))
            if parts is None:
                self.assertIsNone(run.term())
            else:
                self.assertEqual(parts_of(run.term()), parts)

    def test_more_than_40_deep(self):
        # Each call wraps the function once more.
        for times, told in ((37, True), (38, True), (39, False), (60, False)):
            run = TreeRun(term_in(f"call rec f n if n let g call f less n 1 fun z g fun z 1 {times}"))
            self.assertEqual(run.run(), ("done", "fun"))
            if told:
                self.assertEqual(deep_of(run.term()), times + 2)
            else:
                self.assertIsNone(run.term())

    def test_pairs_more_than_40_deep(self):
        for pair in ("two 1 two 1 1", "two two 1 1 1"):
            for times, told in ((36, True), (37, False)):
                run = TreeRun(term_in(f"let p {pair} call rec f n if n let g call f less n 1 fun z g fun z p {times}"))
                self.assertEqual(run.run(), ("done", "fun"))
                self.assertEqual(None if run.term() is None else deep_of(run.term()), 40 if told else None)

    def test_what_is_come_to_ahead_more_than_40_deep(self):
        for times, told in ((37, True), (38, False)):
            run = TreeRun(term_in(f"let g call rec f n if n let g call f less n 1 fun z g fun z 1 {times} two g plus 1 2"))
            trees = [run.term()]
            while run.step():
                trees.append(run.term())
            # The last two: ahead of the sum, and the pair.
            self.assertEqual([None if tree is None else (tree[0], deep_of(tree)) for tree in trees[-2:]], [("two", 40) if told else None] * 2)

    def test_far_beyond_the_bounds(self):
        # Of very many parts, if it were told.
        run = TreeRun(term_in("call rec f n if n let g call f less n 1 fun z two g g fun z 1 90"))
        self.assertEqual(run.run(), ("done", "fun"))
        self.assertIsNone(run.term())
        run = TreeRun(term_in("call rec f n if n plus 1 call f less n 1 0 90"))
        most = 0
        while run.step():
            if run.term() is not None:
                most = max(most, deep_of(run.term()))
                self.assertLessEqual(parts_of(run.term()), 300)
        self.assertEqual((most, run.outcome()), (40, ("done", 90)))

    def test_beyond_the_bounds_from_the_first(self):
        term = ("num", 1)
        for _ in range(40):
            term = ("first", term)
        self.assertIsNone(TreeRun(term).term())
        self.assertEqual(deep_of(TreeRun(term[1]).term()), 40)

    def test_what_is_told_is_a_value_at_the_end(self):
        for text, way in WAYS:
            run = TreeRun(term_in(text))
            if run.run()[0] == "done" and run.term() is not None:
                self.assertIs(is_value(run.term()), True)
                self.assertEqual(told_of(run.term())[0], run.outcome())


def nested(many):
    """Twos in which x stands so many times."""
    if many == 1:
        return "x"
    return f"two {nested(many // 2)} {nested(many - many // 2)}"


def is_of(told, kind):
    if kind[0] == "any":
        return True
    if kind == N:
        return type(told) is int
    if kind[0] == "pair":
        return type(told) is tuple and is_of(told[0], kind[1]) and is_of(told[1], kind[2])
    return told == "fun"


ANSWERS = {N: 5, ("pair", N, N): (3, 4)}


class ChanceTest(unittest.TestCase):
    def test_trees_stand_in_the_way_of_the_slow_one(self):
        told = 0
        for seed in range(1200):
            maker = Maker(seed)
            term = maker.closed(maker.one_of([5, 7, 8]))
            run = TreeRun(term, most=20)
            ours = [run.term()]
            while run.step():
                ours.append(run.term())
            theirs = slow_terms(term, 20)
            at = 0
            for one in ours:
                if one is not None:
                    told += 1
                    self.assertIn(one, theirs[at:], term)
                    at = theirs.index(one, at)
            # What isn't told has an under that's come to, something kept, .., or waits as yet.
            if None not in theirs and run.outcome()[0] == "done":
                self.assertNotIn(None, ours)
        self.assertGreater(told, 2000)

    def test_programs_that_can_be_looked_at(self):
        # [1] (a): never stuck, asks for nothing that its roster doesn't tell, comes to what is of its kind;
        # so does each tree on its way, of which the kind is the program's, or more open.
        for seed in range(1200):
            maker = Maker(seed)
            term = maker.closed(maker.one_of([4, 6, 8]))
            try:
                kind, roster = look(term, SHEET)
            except Clash:
                continue
            run = TreeRun(term)
            for _ in range(400):
                tree = run.term()
                if tree is not None:
                    self.assertIsNotNone(comes_of(look(tree, SHEET), (kind, roster)), (term, tree))
                outcome = run.outcome()
                if outcome[0] == "asks":
                    self.assertIn(outcome[1], roster[0])
                    run.answer(ANSWERS[KINDS[outcome[1]][1]])
                elif not run.step() and run.outcome()[0] != "asks":
                    break
            self.assertIn(run.outcome()[0], ("done", "asks", "long", "going"), term)
            if run.outcome()[0] == "done":
                self.assertTrue(is_of(run.outcome()[1], kind), term)


if __name__ == "__main__":
    unittest.main()
