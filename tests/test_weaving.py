"""weaving.py ([18])."""

import itertools
import random
import unittest

from handledeeds.kindtext import kind_text, roster_text
from handledeeds.look import look
from handledeeds.machine import Machine
from handledeeds.made import stored
from handledeeds.rows import rows_of
from handledeeds.terms import answerers_free, names_free
from handledeeds.termtext import term_in
from handledeeds.treerun import TreeRun
from handledeeds.weaving import is_weaving, picks_of, turns_of, weave, woven
from tests.samples import frozen

# Tasks, the turns of each, and what each tells.
TASKS = {
    "fun x 7": ([[]], 7),
    "fun x let y ask say 1 let y ask say 2 x": ([[1, 2]], 0),
    "fun x ask pause 0": ([[], []], 0),
    "fun x let y ask pause 9 let y ask say 1 5": ([[], [1]], 5),
    "fun x let y ask say 1 let y ask pause 0 10": ([[1], []], 10),
    "fun x plus plus ask pause 0 ask say 3 plus ask pause 0 100": ([[], [3], []], 100),
    "rec f x let y ask say x if below x 3 let y ask pause x call f plus x 1 times x 300": ([[0], [1], [2], [3]], 900),
    "fun x deep let y ask pause 1 let y ask say 6 y y plus y 1 1 quick pause u 50": ([[6]], 1),
    "fun x deep let y ask pause 1 let y ask say y 8 y y 1 quick say u ask say plus u 50": ([[], [50]], 8),
    "fun x deep let y ask pause 1 ask choose 0 y y 1 many choose u k plus call k 1 plus ask say 5 call k 2": ([[], [5]], 3),
    "fun x let y ask say two 1 two x fun z z let y ask pause 0 let y ask say fun z z ask say fun z z": ([[(1, (0, "fun"))], ["fun", "fun"]], 0),
    "fun x ward let y ask say 1 ask pause 0 996": ([[1], []], 0),
    "fun x let f fun z ask pause z let y call f 1 let y call f 2 let y ask say 4 996": ([[], [], [4]], 996),
}

NAMES = list(TASKS)

SHEET = (("pause", "number", "number"), ("pick", "number", "number"), ("say", "number", "number"))


def slow_weave(turns, picks):
    """By the rule, word by word."""
    left = [list(task) for task in turns if task]
    told = []
    for pick in picks:
        if not left:
            break
        task = left[pick % len(left)]
        told.extend(task.pop(0))
        left = [task for task in left if task]
    return None if left else told


def run_out(run, picks):
    """What's said, what picks were asked of, by a run of a machine or a tree that's answered so."""
    said = []
    asked = []
    waiting = list(picks)
    while run.run()[0] == "asks":
        _, deed, told = run.outcome()
        if deed == "say":
            said.append(told)
            run.answer(0)
        elif deed == "pick":
            asked.append(told)
            run.answer(waiting.pop(0))
        else:
            raise AssertionError(deed)
    return said, asked


def going(turns, picks):
    """How many go on at each pick."""
    left = [len(task) for task in turns]
    told = []
    for pick in picks:
        told.append(len(left))
        left[pick % len(left)] -= 1
        left = [many for many in left if many]
    return told


def own_calls(task):
    machine = Machine(rows_of(("call", term_in(task), ("num", 0))))
    while machine.run()[0] == "asks":
        machine.answer(0)
    return machine.counts()[0]


class TurnsTest(unittest.TestCase):
    def test_by_hand(self):
        for task, (turns, _) in TASKS.items():
            before = frozen(term_in(task))
            told = turns_of(term_in(task))
            self.assertEqual(told, turns, task)
            self.assertIs(type(told), list)
            self.assertTrue(all(type(turn) is list for turn in told))
            self.assertEqual(frozen(term_in(task)), before)
            self.assertEqual(turns_of(task=term_in(task), most=50), turns)

    def test_where_it_asks_else_or_does_not_end(self):
        for task in ("fun x ask get 1", "fun x let y ask say 1 ask pick 1", "fun x call 1 2", "fun x first x", "7", "two 1 2",
                     "rec f x call f x", "rec f x let y ask pause 0 call f x", "rec f x let y ask say 0 call f x"):
            self.assertIsNone(turns_of(term_in(task)), task)
        # Of its own answerer it may ask whatever.
        self.assertEqual(turns_of(term_in("fun x deep ask get 1 y y 1 quick get u ask say u")), [[1]])

    def test_most(self):
        task = term_in("fun x let y ask say 1 let y ask pause 0 ask say 2")
        self.assertEqual(turns_of(task, most=4), [[1], [2]])
        self.assertIsNone(turns_of(task, most=3))
        with self.assertRaises(TypeError):
            turns_of(task, 4)

    def test_told_lists_are_the_askers_own(self):
        task = term_in("fun x let y ask say 1 ask pause 0")
        told = turns_of(task)
        told[0].append(7)
        told.clear()
        self.assertEqual(turns_of(task), [[1], []])


class WeaveTest(unittest.TestCase):
    def test_by_hand(self):
        turns = [[[1], [2, 3]], [[4]], [[], [5], [6]]]
        for picks, told in (([0, 0, 0, 0, 0, 0], [1, 2, 3, 4, 5, 6]), ([2, 1, 1, 1, 0, 0], [4, 5, 6, 1, 2, 3]),
                            ([3, 4, 5, 7, 3, 996], [1, 4, 5, 6, 2, 3]),
                            ([0, 0, 0, 0, 0, 0, 9, 9], [1, 2, 3, 4, 5, 6]), ([0, 0, 0, 0, 0], None), ([], None)):
            self.assertEqual(weave(turns, picks), told, picks)
        self.assertEqual(weave(turns=turns, picks=[2, 2, 2, 1, 0, 0]), [5, 6, 4, 1, 2, 3])
        self.assertEqual(weave([[[]]], [0]), [])
        self.assertIsNone(weave([[[]]], []))
        self.assertEqual(weave([], []), [])
        self.assertEqual(weave([[["fun", (1, 2)]]], [5]), ["fun", (1, 2)])

    def test_as_the_rule_tells(self):
        chance = random.Random(5)
        for _ in range(500):
            turns = [[[chance.randrange(3) for _ in range(chance.randrange(3))] for _ in range(chance.randrange(1, 5))]
                     for _ in range(chance.randrange(1, 5))]
            picks = [chance.randrange(997) for _ in range(sum(map(len, turns)) + chance.randrange(-1, 3))]
            before = frozen((turns, picks))
            self.assertEqual(weave(turns, picks), slow_weave(turns, picks))
            self.assertEqual(frozen((turns, picks)), before)


class WovenTest(unittest.TestCase):
    def check(self, tasks, picks, most=300):
        term = woven(tuple([term_in(task) for task in tasks]))
        turns = [TASKS[task][0] for task in tasks]
        machine = Machine(rows_of(term), most=most)
        said, asked = run_out(machine, picks)
        self.assertEqual(said, weave(turns, picks), tasks)
        self.assertEqual(asked, going(turns, picks[:len(asked)]))
        total = sum(map(len, turns))
        self.assertEqual(len(asked), total)
        self.assertEqual(machine.outcome(), ("done", sum(TASKS[task][1] for task in tasks) % 997))
        self.assertLessEqual(machine.counts()[0] - sum(map(own_calls, tasks)), 5 * total)
        tree = TreeRun(term, most=most)
        self.assertEqual(run_out(tree, picks), (said, asked))
        self.assertEqual((tree.outcome(), tree.trace()), (machine.outcome(), machine.trace()))
        return said

    def test_each_alone(self):
        for task in NAMES:
            self.check((task,), [0] * 8)
            self.check((task,), [996, 3, 5, 7, 11])

    def test_two_by_all_picks(self):
        pairs = [pair for pair in itertools.product(NAMES, NAMES) if sum(len(TASKS[task][0]) for task in pair) <= 4]
        for pair in pairs:
            for picks in itertools.product((0, 1), repeat=sum(len(TASKS[task][0]) for task in pair)):
                self.check(pair, list(picks))

    def test_three_and_four(self):
        chance = random.Random(7)
        for many in (2, 3, 4, 3, 4, 3, 4, 4):
            for _ in range(25):
                tasks = tuple([chance.choice(NAMES) for _ in range(many)])
                self.check(tasks, [chance.randrange(chance.choice([3, 997])) for _ in range(20)])

    def test_each_number_that_may_be_picked(self):
        tasks = tuple([f"fun x let y ask say {at} 0" for at in range(4)])
        for many in (1, 2, 3, 4):
            term = woven(tuple([term_in(task) for task in tasks[:many]]))
            for pick in range(997):
                machine = Machine(rows_of(term))
                machine.run()
                machine.answer(pick)
                self.assertEqual(machine.run(), ("asks", "say", pick % many))

    def test_the_same_again_by_the_same_picks(self):
        self.assertEqual(self.check(tuple(NAMES[4:8]), [5] * 20), self.check(tuple(NAMES[4:8]), [5] * 20))

    def test_nothing_is_free_and_nothing_handed_in_is_changed(self):
        for many in (1, 2, 3, 4):
            tasks = tuple([term_in(task) for task in NAMES[:many]])
            before = frozen(tasks)
            term = woven(tasks=tasks)
            self.assertEqual((names_free(term), answerers_free(term)), ([], []))
            self.assertEqual(frozen(tasks), before)

    def test_it_can_be_looked_at(self):
        for many in (1, 2, 3, 4):
            kind, roster = look(woven(tuple([term_in(task) for task in NAMES[1:1 + many]])), SHEET)
            self.assertEqual((kind_text(kind), roster_text(roster)), ("number", "[ pick say r0 ]"))

    def test_within_a_store_and_an_answerer_of_pick(self):
        # What the tasks say is put into one store, which both share.
        task = "fun x let y ask say 1 let y ask pause 0 let y ask say 2 0"
        tasks = (term_in(task), term_in(task.replace("1", "3").replace("2", "4")))
        for picks, told in (("0", 1234), ("1", 3412)):
            body = ("handle", "deep", woven(tasks), ("z", term_in("ask get 0")), (("pick", "quick", "u", "", ("num", int(picks))),))
            body = ("handle", "deep", body, ("z", ("name", "z")), (("say", "quick", "u", "", term_in("let n ask get 0 ask put plus times n 10 u")),))
            self.assertEqual(Machine(rows_of(stored(body, ("num", 0))), most=300).run(), ("done", told % 997))


class IsWeavingTest(unittest.TestCase):
    ROWS = [[1, 2], [3], ["fun", (1, 2)]]

    def test_all_weavings_and_no_others(self):
        things = [1, 2, 3, "fun", (1, 2)]
        for order in itertools.permutations(things):
            keeps = order.index(1) < order.index(2) and order.index("fun") < order.index((1, 2))
            self.assertIs(is_weaving(self.ROWS, list(order)), keeps)
        self.assertIs(is_weaving(rows=self.ROWS, thing=things), True)

    def test_too_few_too_many_and_others(self):
        self.assertIs(is_weaving(self.ROWS, [1, 2, 3, "fun"]), False)
        self.assertIs(is_weaving(self.ROWS, [1, 2, 3, "fun", (1, 2), 3]), False)
        self.assertIs(is_weaving(self.ROWS, [1, 2, 4, "fun", (1, 2)]), False)
        self.assertIs(is_weaving([[1, 1], [1]], [1, 1, 1]), True)
        self.assertIs(is_weaving([[1, 1], [1]], [1, 1]), False)
        self.assertIs(is_weaving([], []), True)
        self.assertIs(is_weaving([[], []], []), True)
        self.assertIs(is_weaving([], [1]), False)
        self.assertIs(is_weaving([[1]], []), False)

    def test_things_of_any_make(self):
        for thing in (None, True, 7, "fun", (), (1, 2, 3), [[1]], [1, True], [None], (1,), [True, 2, 3, "fun", (1, 2)],
                      [1, 2, 3, "fun", [1, 2]], [1, 2, 3, "fun", (True, 2)], (1, 2, 3, "fun", (1, 2)), [1, 2, 3, ["fun"], (1, 2)]):
            before = frozen(thing)
            self.assertIs(is_weaving(self.ROWS, thing), False, thing)
            self.assertEqual(frozen(thing), before)
        self.assertIs(is_weaving([[0]], [False]), False)
        self.assertIs(is_weaving([[1]], [True]), False)

    def test_of_12_things_and_more(self):
        rows = [[1, 2, 3], [1, 2, 3], [1, 2, 3], [1, 2, 3]]
        self.assertIs(is_weaving(rows, [1, 1, 1, 1, 2, 2, 2, 2, 3, 3, 3, 3]), True)
        self.assertIs(is_weaving(rows, [1, 1, 1, 1, 2, 2, 2, 2, 3, 3, 3, 2]), False)
        self.assertIs(is_weaving(rows, [1, 1, 1, 1, 2, 2, 2, 2, 3, 3, 3, 3, 3]), False)
        self.assertIs(is_weaving([[1] * 12], [1] * 12), True)
        self.assertIs(is_weaving([[1] * 10, [1] * 10], [1] * 20), True)
        self.assertIs(is_weaving([[1] * 10, [1] * 10], [1] * 19), False)
        self.assertIs(is_weaving([[1] * 10, [1] * 9 + [2]], [1] * 9 + [2] + [1] * 10), True)
        self.assertIs(is_weaving([[1] * 10, [1] * 9 + [2]], [1] * 8 + [2] + [1] * 11), False)


class PicksTest(unittest.TestCase):
    def first_picks(self, turns, thing):
        """By all lists of picks, in order."""
        total = sum(map(len, turns))
        for picks in itertools.product(range(len(turns)), repeat=total):
            if all(pick < many for pick, many in zip(picks, going(turns, picks))) and weave(turns, picks) == thing:
                return list(picks)
        return None

    def test_by_hand(self):
        turns = [[[1], [2, 3]], [[4]]]
        for thing, picks in (([1, 2, 3, 4], [0, 0, 0]), ([1, 4, 2, 3], [0, 1, 0]), ([4, 1, 2, 3], [1, 0, 0]), ([1, 2, 4, 3], None),
                             ([1, 2, 3], None), ([1, 2, 3, 4, 4], None), ([], None)):
            told = picks_of(turns, thing)
            self.assertEqual(told, picks, thing)
        self.assertEqual(picks_of(turns=[[[]], [[]]], thing=[]), [0, 0])
        self.assertEqual(picks_of([[[1], [1]], [[1]]], [1, 1, 1]), [0, 0, 0])
        self.assertEqual(picks_of([[[], [1]], [[2], []]], [2, 1]), [0, 1, 0, 0])
        self.assertEqual(picks_of([], []), [])
        self.assertIsNone(picks_of([], [1]))

    def test_the_first_of_all(self):
        chance = random.Random(11)
        found = 0
        for _ in range(300):
            turns = [[[chance.randrange(2) for _ in range(chance.randrange(3))] for _ in range(chance.randrange(1, 3))]
                     for _ in range(chance.randrange(1, 4))]
            thing = weave(turns, [chance.randrange(4) for _ in range(6)])
            if chance.random() < 0.3:
                thing = thing[::-1]
            told = picks_of(turns, thing)
            self.assertEqual(told, self.first_picks(turns, thing), (turns, thing))
            found += told is not None
        self.assertGreater(found, 200)

    def test_things_of_any_make(self):
        for thing in (None, True, 7, "1", (1, 2), [True, 2], [1, [2]], (), [[1], [2]]):
            self.assertIsNone(picks_of([[[1], [2]]], thing), thing)
        self.assertIsNone(picks_of([[[(1, 2)]]], [[1, 2]]))
        self.assertEqual(picks_of([[[(1, 2)]]], [(1, 2)]), [0])

    def test_four_tasks_of_eight_turns(self):
        turns = [[[1]] * 8] * 4
        self.assertEqual(picks_of(turns, [1] * 32), [0] * 32)
        self.assertIsNone(picks_of(turns, [1] * 31 + [2]))

    def test_they_weave_the_thing(self):
        tasks = [TASKS[name][0] for name in NAMES[3:7]]
        picks = [3, 2, 1, 5, 2, 2, 0, 1, 0, 0, 1, 0]
        thing = weave(tasks, picks)
        self.assertEqual(weave(tasks, picks_of(tasks, thing)), thing)


if __name__ == "__main__":
    unittest.main()
