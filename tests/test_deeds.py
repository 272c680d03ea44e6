"""Rows of deeds ([20])."""

import itertools
import random
import unittest

from handledeeds.errors import BadAnswer, BadDeed, BadForm, BadName, Broken, Clash, NoName, NoRun, NotAsked, Round, TooMany, Used
from handledeeds.house import House
from handledeeds.termtext import term_in
from tests.chance import SHEET
from tests.samples import frozen
from tests.test_house import Refusing, house_of, standing, state

REFUSALS = (BadAnswer, BadDeed, BadForm, BadName, Broken, Clash, NoName, NoRun, NotAsked, Round, TooMany, Used)

ONE = ("define", "a", ("num", 1))
TWO = ("define", "b", ("num", 2))
THREE = ("define", "c", ("num", 3))
BAD = ("drop", "zz")
ENDS = [("in", 1), ("out", 1)]


class DoTest(Refusing):
    def test_each_word(self):
        house = House(SHEET)
        told = house.do([("define", "f", term_in("fun x ask get x")), ("define", "g", ("num", 1)), ("drop", "g"), ("start", term_in("call f 5")),
                         ("go", 0), ("answer", 0, 7), ("go", 0), ("start", ("num", 1)), ("stop", 1), ("undo",), ("undo",), ("do", [ONE], True)])
        self.assertEqual(told, [None, None, None, 0, 7, None, 3, 1, None, True, True, [None]])
        self.assertEqual((house.names(), house.runs(), house.outcome(0)), (["a", "f"], [0], ("done", 7)))
        # Each is undone by itself.
        self.assertEqual(house.deeds(), 8)
        house.undo()
        self.assertEqual((house.names(), house.deeds()), (["f"], 7))
        house.undo()
        self.assertEqual(house.outcome(0), ("going",))
        self.assertEqual(house.log(), [("in", 1), ("in", 2), ("out", 2), ("out", 1)])

    def test_of_none_and_by_names(self):
        house = House(SHEET)
        self.assertEqual(house.do([]), [])
        self.assertEqual(house.do(deeds=[], whole=False), [])
        self.assertEqual((house.deeds(), house.log(), house.busy()), (0, ENDS * 2, 0))
        self.assertEqual(house.do([("undo",)]), [False])
        with self.assertRaises(TypeError):
            house.do([], True)

    def test_refused_in_the_midst(self):
        for whole, names, deeds in ((True, ["z"], 1), (False, ["a", "b", "z"], 3)):
            house = house_of("z 9")
            with self.assertRaises(NoName) as caught:
                house.do([ONE, TWO, BAD, THREE], whole=whole)
            self.assertEqual(caught.exception.name, "zz")
            self.assertEqual((house.names(), house.deeds(), house.busy(), house.log()), (names, deeds, 0, ENDS))
            house.undo()
            self.assertEqual(house.names(), [["a", "z"], []][whole])
        # Whole where nothing is told of it.
        house = House(SHEET)
        with self.assertRaises(NoName):
            house.do([ONE, BAD])
        self.assertEqual(house.names(), [])

    def test_what_was_undone_in_it_is_there_again(self):
        for whole, names, deeds in ((True, ["y", "z"], 2), (False, ["a"], 1)):
            house = house_of("z 9", "y 8")
            with self.assertRaises(NoName):
                house.do([("undo",), ("undo",), ONE, BAD], whole=whole)
            self.assertEqual((house.names(), house.deeds()), (names, deeds))
            house.undo()
            self.assertEqual(house.names(), ["z"] if whole else [])

    def test_all_refusals(self):
        for deed, error, fields in (
                (("define", "Q", ("num", 1)), BadName, {"name": "Q"}), (("define", "q", 7), BadForm, {"thing": 7}), (BAD, NoName, {"name": "zz"}),
                (("define", "q", term_in("fun x first 1")), Clash, {"place": (0,), "why": "kinds"}), (("drop", "f"), Used, {"other": "g"}),
                (("define", "f", term_in("fun x call g x")), Round, {"name": "f"}), (("define", "f", ("num", 1)), Broken, {"other": "g"}),
                (("go", 5), NoRun, {"number": 5}), (("stop", 5), NoRun, {"number": 5}), (("answer", 5, 1), NoRun, {"number": 5}),
                (("answer", 0, 1), NotAsked, {"number": 0}), (("answer", 1, (1, 2)), BadAnswer, {"value": (1, 2)}),
                (("start", term_in("first y")), NoName, {"name": "y"})):
            for whole in (True, False):
                house = house_of("f fun x plus x 1", "g fun x call f x")
                house.start(term_in("ask get 1"))
                house.start(term_in("ask get 1"))
                house.go(1)
                before, names = state(house), house.names()
                with self.assertRaises(error) as caught:
                    house.do([("define", "a", ("num", 1)), deed], whole=whole)
                self.assertIs(type(caught.exception), error)
                self.assertEqual(vars(caught.exception), fields)
                if whole:
                    self.assertEqual(state(house)[:5], before[:5])
                else:
                    self.assertEqual(house.names(), ["a", *names])

    def test_rows_within_rows(self):
        house = House(SHEET)
        row = [ONE, ("do", [TWO, ("do", [THREE], False)], True), ("do", [], False)]
        self.assertEqual(house.do(row), [None, [None, [None]], []])
        self.assertEqual(house.log(), [("in", 1), ("in", 2), ("in", 3), ("out", 3), ("out", 2), ("in", 2), ("out", 2), ("out", 1)])
        self.assertEqual((house.names(), house.deeds(), house.busy()), (["a", "b", "c"], 3, 0))

    def test_refused_within_rows_unlike_the_one_that_holds_them(self):
        for outer, middle, inner in itertools.product((True, False), repeat=3):
            house = house_of("z 9")
            with self.assertRaises(NoName):
                house.do([ONE, ("do", [TWO, ("do", [THREE, BAD], inner), BAD], middle)], whole=outer)
            names = ["z"]
            if not outer:
                names.append("a")
                if not middle:
                    names.append("b")
                    if not inner:
                        names.append("c")
            self.assertEqual(house.names(), sorted(names), (outer, middle, inner))
            self.assertEqual(house.deeds(), len(names))
            self.assertEqual(house.log(), [("in", 1), ("in", 2), ("in", 3), ("out", 3), ("out", 2), ("out", 1)])
            self.assertEqual(house.busy(), 0)
            for _ in names:
                self.assertIs(house.undo(), True)
            self.assertIs(house.undo(), False)

    def test_nothing_of_the_log_is_put_back(self):
        house = House(SHEET)
        for row in ([ONE, BAD], [ONE], [("undo",), ("do", [BAD], True)]):
            try:
                house.do(row)
            except NoName:
                pass
        house.undo()
        self.assertEqual(house.log(), ENDS * 2 + [("in", 1), ("in", 2), ("out", 2), ("out", 1)])
        self.assertEqual(house.twin().log(), [])
        house.log().clear()
        self.assertEqual(len(house.log()), 8)

    def test_told_lists_are_the_askers_own(self):
        house = House(SHEET)
        row = [ONE, ("do", [TWO], True)]
        before = frozen(row)
        told = house.do(row)
        self.assertEqual(frozen(row), before)
        told[1].append(7)
        row[1][1].append(BAD)
        self.assertEqual(house.names(), ["a", "b"])


BAD_DEEDS = [
    ("more",), ("Define", "a", ("num", 1)), (), ("define",), ("define", "a"), ("define", "a", ("num", 1), 1), ("drop",), ("drop", "a", "b"),
    ("start",), ("start", ("num", 1), 100), ("go",), ("go", 0, 1000), ("answer", 0), ("answer", 0, 1, 2), ("stop",), ("stop", 0, 1), ("undo", 1),
    ("do",), ("do", []), ("do", [], True, True), ("do", [], 1), ("do", [], 0), ("do", [], None), ("do", (), True), ("do", None, True),
    ("do", "", True), ("do", {}, True), ("do", [ONE, ("more",)], True), ("do", [("do", [("undo", 1)], True)], False), ("do", [None], True),
    ("do", [["undo"]], True), ("do", [ONE] * 13, True), ("do", [("do", [ONE] * 13, False)], False), None, True, 7, "undo", ["undo"],
    (7,), (None,), (("undo",),), ([],), (["undo"],), ("do", [("do", [("do", [], True)], True)], True), ("do", [("do", [("do", [ONE], True)], True)], True),
    ("twin",), ("names",), ("log",),
]

GOOD_DEEDS = [("do", [ONE] * 12, True), ("do", [("do", [ONE] * 12, False)], False), ("do", [("do", [], True)], True), ("do", [], False), ("undo",)]


class BadDeedTest(Refusing):
    def test_each_at_each_number(self):
        for bad in BAD_DEEDS:
            for number in (0, 1, 3):
                house = house_of("z 9")
                row = [*[ONE, BAD, ("undo",)][:number], bad, ("more",)]
                before = frozen(row)
                for whole in (True, False):
                    with self.refused(house, BadDeed, number=number):
                        house.do(row, whole=whole)
                self.assertEqual(frozen(row), before)
                self.assertEqual(house.log(), [])

    def test_good_ones(self):
        for good in GOOD_DEEDS:
            house = House(SHEET)
            house.do([good])
            self.assertEqual(house.log()[0], ("in", 1))

    def test_ahead_of_all(self):
        house = House(SHEET)
        with self.refused(house, BadDeed, number=1):
            house.do([BAD, ("more",)])
        # By words and numbers of things alone: what's wrong else is told as it's done.
        with self.assertRaises(BadName):
            house.do([("define", None, None)])
        with self.assertRaises(NoRun):
            house.do([("go", 3)])

    def test_twelve_and_thirteen(self):
        house = House(SHEET)
        self.assertEqual(house.do([ONE] * 12), [None] * 12)
        with self.refused(house, BadDeed, number=12):
            house.do([ONE] * 13)
        with self.refused(house, BadDeed, number=12):
            house.do([ONE] * 15)
        with self.refused(house, BadDeed, number=5):
            house.do([ONE] * 5 + [("more",)] + [ONE] * 8)


class ChanceTest(unittest.TestCase):
    """Whatever is done, the house is one made anew of what stands."""

    PROGRAMS = ["1", "fun x x", "fun x plus x 1", "fun x call f x", "fun x call g call f x", "fun x two x x", "fun x ask get x", "fun x g", "fun x h",
                "fun x first x", "fun x call h x", "fun x y"]
    STARTS = ["call f 1", "call g ask get 2", "h", "two f g", "ask say 3", "first 1"]

    def deed(self, chance, room=2):
        word = chance.choice(["define"] * 6 + ["drop"] * 2 + ["start"] * 3 + ["go", "go", "answer", "answer", "stop", "undo", "do"])
        if word == "define":
            return (word, chance.choice("fgh"), term_in(chance.choice(self.PROGRAMS)))
        if word == "drop":
            return (word, chance.choice("fgh"))
        if word == "start":
            return (word, term_in(chance.choice(self.STARTS)))
        if word == "answer":
            return (word, chance.randrange(3), chance.choice([1, 2, (1, 2)]))
        if word == "undo" or word == "do" and room == 0:
            return ("undo",)
        if word == "do":
            return (word, [self.deed(chance, room - 1) for _ in range(chance.randrange(4))], chance.random() < 0.5)
        return (word, chance.randrange(3))

    def test_anew(self):
        refused = 0
        for seed in range(150):
            chance = random.Random(seed)
            house = House(SHEET)
            ins = 0
            # What stood ahead of each deed that can be undone.
            stood = []
            for _ in range(chance.randrange(5, 25)):
                deed = self.deed(chance)
                before, many = standing(house), house.deeds()
                whole = chance.random() < 0.5
                try:
                    house.do([deed], whole=whole)
                    if deed[0] not in ("undo", "do"):
                        stood.append(before)
                except REFUSALS:
                    refused += 1
                    if whole or deed[0] != "do":
                        self.assertEqual((standing(house), house.deeds()), (before, many))
                if deed[0] in ("undo", "do"):
                    # Rebuilt from what can be undone.
                    stood = []
                    twin = house.twin()
                    while twin.undo():
                        stood.insert(0, standing(twin))
                self.assertEqual(house.deeds(), len(stood))
                ins = [word for word, _ in house.log()].count("in")
                self.assertEqual([word for word, _ in house.log()].count("out"), ins)
                self.assertEqual(house.busy(), 0)
            self.anew(house)
            while house.undo():
                self.assertEqual(standing(house), stood.pop())
        self.assertGreater(refused, 300)

    def anew(self, house):
        other = House(SHEET)
        waiting = house.names()
        while waiting:
            ready = [name for name in waiting if not set(house.needs(name)) & set(waiting)]
            other.define(ready[-1], house.term(ready[-1]))
            waiting.remove(ready[-1])
        self.assertEqual(standing(other)[1], standing(house)[1])
        left = house.twin()
        for number in left.runs():
            left.stop(number)
        self.assertTrue(other == left)


if __name__ == "__main__":
    unittest.main()
