"""What is promised above all ([1]), over the whole program, by programs by chance.

Of (c) and (e) more is asked where runs and papers are, by hand and by other ways to do them.
"""

import random
import unittest

from handledeeds.errors import Clash
from handledeeds.house import House
from handledeeds.joint import is_of, joined_of, shows_joined, told_in
from handledeeds.kindcheck import shows_kinds
from handledeeds.kindpapers import paper_of
from handledeeds.kinds import comes_of
from handledeeds.look import look
from handledeeds.machine import Machine, machine_of
from handledeeds.quick import quickened, slowed
from handledeeds.rowcheck import term_of
from handledeeds.rows import rows_of
from handledeeds.terms import answerers_free, names_free
from handledeeds.termtext import term_in
from handledeeds.treerun import TreeRun
from handledeeds.weaving import is_weaving, picks_of, turns_of, weave, woven
from tests.chance import KINDS, SHEET, Maker


def programs(many):
    """Triples (maker, program, (KIND, ROSTER)) of programs that can be looked at."""
    for seed in range(many):
        maker = Maker(50000 + seed)
        term = maker.closed(maker.one_of([4, 6, 8, 9]))
        for _ in range(seed % 3):
            other = maker.changed(term)
            term = term if names_free(other) or answerers_free(other) else other
        try:
            yield maker, term, look(term, SHEET)
        except Clash:
            pass


def reply(maker, deed):
    number = maker.chance.randrange(5)
    return number if KINDS[deed][1] == "number" else (number, maker.chance.randrange(5))


class AboveAllTest(unittest.TestCase):
    def test_a_never_stuck_and_of_its_kind(self):
        ended = 0
        for maker, term, (kind, roster) in programs(1500):
            run = TreeRun(term)
            while run.run()[0] == "asks":
                deed = run.outcome()[1]
                self.assertIn(deed, roster[0], term)
                run.answer(reply(maker, deed))
            self.assertIn(run.outcome()[0], ("done", "long"), term)
            if run.outcome()[0] == "done":
                ended += 1
                self.assertTrue(is_of(run.outcome()[1], kind), term)
        self.assertGreater(ended, 800)

    def test_a_others_come_of_it(self):
        for _, term, told in programs(300):
            paper = paper_of(term, SHEET)
            self.assertEqual(paper[0][1:], told)
            self.assertTrue(shows_kinds(term, SHEET, paper))
            # As open as can be: it comes of itself, by which nothing is put in.
            kinds, tails = comes_of(told, told)
            self.assertTrue(all(kinds[n] == ("any", n) for n in kinds) and all(tails[n] == ((), n) for n in tails))

    def test_b_cut_anywhere_it_is_still_the_same_run(self):
        for maker, term, _ in programs(150):
            rows = rows_of(term)
            tree = TreeRun(term)
            machine = Machine(rows)
            while True:
                done = machine.go(steps=maker.chance.randrange(1, 6))
                machine = machine_of(rows, machine.image()) if maker.chance.random() < 0.5 else machine.like()
                if done == 0:
                    self.assertEqual(tree.run(), machine.outcome())
                    self.assertEqual((tree.trace(), tree.counts()), (machine.trace(), machine.counts()))
                    if machine.outcome()[0] != "asks":
                        break
                    value = reply(maker, machine.outcome()[1])
                    tree.answer(value)
                    machine.answer(value)

    def test_c_each_goes_its_own_way(self):
        # A store, and an answerer that's called, within what's gone on with twice, and a store outside.
        within = "call deep let c ask choose 0 let n ask get 0 let y ask put plus n plus c 1 ask get 0 x fun s x 2 " \
            "many get u k fun s call call k s s many put v k fun s call call k 0 v 5"
        for text, told in ((f"deep {within} x x 1 many choose u k two call k 0 call k 1", (6, 7)),
                           ("deep under h let c ask choose 0 plus askof h get c 10 x x 1 quick get u times u 2 x x 1 many choose u k two call k 3 call k 4",
                            (16, 18)),
                           ("call deep deep let c ask choose 0 let n ask get 0 let y ask put plus n plus c 1 ask get 0 x x 1 many choose u k "
                            "two call k 0 call k 1 x fun s x 2 many get u k fun s call call k s s many put v k fun s call call k 0 v 5", (6, 8))):
            self.assertEqual(TreeRun(term_in(text)).run(), ("done", told), text)
            self.assertEqual(Machine(rows_of(term_in(text))).run(), ("done", told))

    def test_d_each_ward_is_cleaned_once(self):
        # Of so many wards one within the other, ended or not; the ones that are come to only.
        for many in (1, 2, 5):
            for inner, left in (("7", True), ("ask stop 7", True), ("ask go 7", False)):
                body = "".join([f"ward plus {n} " for n in range(many)]) + inner + "".join([f" {n}" for n in reversed(range(many))])
                term = term_in(f"deep {body} x x 2 many go u k u end stop u u")
                trace = TreeRun(term)
                trace.run()
                self.assertEqual([event for event in trace.trace() if event[0] == "clean"],
                                 [("clean", n) for n in reversed(range(many))] if left else [])

    def test_f_quick_and_slow(self):
        for _, term, told in programs(200):
            self.assertEqual(look(slowed(term), SHEET), told)
            self.assertEqual(look(quickened(term), SHEET), told)

    def test_g_weavings(self):
        chance = random.Random(3)
        bodies = ["let y ask say 1 ask pause 0", "let y ask pause 0 ask say 2", "let y ask say 3 let y ask pause 0 ask say 4", "5"]
        for _ in range(60):
            tasks = tuple([term_in("fun x " + chance.choice(bodies)) for _ in range(chance.randrange(1, 5))])
            turns = [turns_of(task) for task in tasks]
            picks = [chance.randrange(997) for _ in range(sum(map(len, turns)))]
            said = self.said(woven(tasks), picks)
            self.assertEqual(said, self.said(woven(tasks), picks))
            self.assertEqual(said, weave(turns, picks))
            self.assertTrue(is_weaving([[thing for turn in task for thing in turn] for task in turns], said))
            self.assertEqual(weave(turns, picks_of(turns, said)), said)

    def said(self, term, picks):
        machine = Machine(rows_of(term), most=200)
        waiting = list(picks)
        said = []
        while machine.run()[0] == "asks":
            _, deed, told = machine.outcome()
            if deed == "say":
                said.append(told)
            machine.answer(waiting.pop(0) if deed == "pick" else 0)
        self.assertEqual(machine.outcome()[0], "done")
        return said

    def test_h_a_run_in_a_house_is_a_run(self):
        for maker, term, (kind, _) in programs(150):
            house = House(SHEET)
            house.define("f", ("fun", "x", term))
            number = house.start(("call", ("name", "f"), ("num", 0)))
            tree = TreeRun(("call", ("fun", "x", term), ("num", 0)))
            while True:
                house.go(number)
                if house.outcome(number)[0] != "going":
                    self.assertEqual(tree.run(), house.outcome(number))
                    self.assertEqual((tree.trace(), tree.counts()), (house.trace(number), house.counts(number)))
                    if house.outcome(number)[0] != "asks":
                        break
                    value = reply(maker, house.outcome(number)[1])
                    house.answer(number, value)
                    tree.answer(value)
            if house.outcome(number)[0] == "done":
                self.assertTrue(is_of(house.outcome(number)[1], kind))

    def test_i_from_end_to_end(self):
        joined_ones = 0
        for maker, term, (kind, _) in programs(300):
            answers = tuple([reply(maker, deed) for deed in ("get", "get", "get", "put", "stop")])
            joined = joined_of(term, SHEET, answers=answers)
            if joined is not None:
                joined_ones += 1
                self.assertTrue(shows_joined(term, SHEET, joined))
                self.assertTrue(is_of(told_in(joined), kind))
                # Read again from its rows it's a program of the same paper but for how things are called.
                again = term_of(joined[1])
                self.assertTrue(shows_joined(again, SHEET, joined))
        self.assertGreater(joined_ones, 100)


if __name__ == "__main__":
    unittest.main()
