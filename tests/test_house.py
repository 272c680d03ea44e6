"""house.py ([19]), but for rows of deeds."""

import unittest

from handledeeds.errors import BadAnswer, BadForm, BadName, Broken, Clash, NoName, NoRun, NotAsked, Round, TooMany, Used
from handledeeds.house import House
from handledeeds.limits import KEYWORDS
from handledeeds.look import kind_of
from handledeeds.machine import Machine
from handledeeds.rows import rows_of
from handledeeds.terms import parts_of
from handledeeds.termtext import term_in, text_of
from tests.chance import SHEET
from tests.samples import frozen, nested, spread

NAMES = ["a", "b", "c", "d", "e", "f", "g", "h", "i", "j", "k"]


def house_of(*programs, sheet=SHEET):
    """A house with these: texts of a name and a program."""
    house = House(sheet)
    for text in programs:
        name, _, program = text.partition(" ")
        house.define(name, term_in(program))
    return house


def sums(leaves):
    """The sum of so many numbers, not deep."""
    return ("op", "plus", sums(leaves // 2), sums(leaves - leaves // 2)) if leaves > 1 else ("num", 1)


def state(house):
    """All that's told of a house."""
    programs = [(name, house.term(name), house.kind(name), house.needs(name), house.whole(name)) for name in house.names()]
    runs = [(number, house.outcome(number), house.trace(number), house.counts(number)) for number in house.runs()]
    return (house.sheet(), programs, runs, house.deeds(), house.busy(), house.log())


def standing(house):
    """What stands in it."""
    return state(house)[:3]


class Refusing(unittest.TestCase):
    def refused(self, house, error, **fields):
        """What's done within is refused so, and changes nothing."""
        return RefusedContext(self, house, error, fields)


class RefusedContext:
    def __init__(self, test, house, error, fields):
        self.test, self.house, self.error, self.fields = test, house, error, fields
        self.before = state(house)
        self.twin = house.twin()

    def __enter__(self):
        return self

    def __exit__(self, kind, value, trace):
        self.test.assertIs(kind, self.error, value)
        self.test.assertEqual(vars(value), self.fields)
        self.test.assertEqual(state(self.house), self.before)
        self.test.assertTrue(self.house == self.twin)
        return True


class DefineTest(Refusing):
    def test_programs(self):
        house = House(SHEET)
        self.assertEqual((house.names(), house.runs(), house.deeds(), house.sheet()), ([], [], 0, SHEET))
        self.assertIsNone(house.define("f", term_in("fun x plus x 1")))
        house.define("c", term_in("7"))
        house.define(name="g", term=term_in("rec g x if x call f call g less x c 0"))
        self.assertEqual((house.names(), house.deeds()), (["c", "f", "g"], 3))
        self.assertEqual(house.term("g"), term_in("rec g x if x call f call g less x c 0"))
        self.assertEqual(house.needs("g"), ["c", "f"])
        self.assertEqual((house.needs("c"), house.needs("f")), ([], []))
        self.assertEqual(house.kind("g"), ("fun", "number", ((), 0), "number"))
        self.assertEqual(house.kind("c"), "number")
        self.assertEqual(text_of(house.whole("g")), "let c 7 let f fun x plus x 1 rec g x if x call f call g less x c 0")

    def test_names_that_are_none(self):
        house = house_of("f fun x x")
        for name in [*KEYWORDS, "", "F", "f1", "abcdefg", "f g", None, True, 7, ("f",), ["f"], ("num", 1), [], {}]:
            with self.refused(house, BadName, name=name):
                house.define(name, term_in("7"))
            with self.refused(house, BadName, name=name):
                house.define(name, "no term")

    def test_what_is_no_such_term(self):
        house = house_of("f fun x x")
        for thing in (None, True, 7, "7", "fun x x", [], (), ["num", 7], ("num", True), ("num", 997), ("fun", "x", ("num", "1")),
                      ("fun", "x", ["num", 1]), term_in("plus 1 2"), term_in("two 1 2"), term_in("f"), term_in("let x 1 fun y y"),
                      term_in("call f 1"), ("fun", "x", nested(20)), ("fun", "x", spread(120)), ("name", "y")):
            with self.refused(house, BadForm, thing=thing):
                house.define("g", thing)
        house.define("g", ("fun", "x", term_in("past get " * 18 + "1")))
        house.define("g", ("fun", "x", sums(60)))
        self.assertEqual(parts_of(house.term("g")), 120)

    def test_names_that_stand_for_nothing(self):
        house = house_of("f fun x x")
        for text, name in (("fun x y", "y"), ("fun x two z y", "y"), ("fun x call f g", "g"), ("fun x call g f", "g"), ("fun x two h f", "h")):
            with self.refused(house, NoName, name=name):
                house.define("g", term_in(text))
        # Its own name is none of others, also where a program is so called.
        with self.refused(house, NoName, name="f"):
            house.define("f", term_in("fun x call f x"))
        with self.refused(house, NoName, name="f"):
            house.define("f", term_in("fun x two f z"))
        with self.refused(house, NoName, name="e"):
            house.define("f", term_in("fun x two f e"))
        house.define("f", term_in("rec f x call f x"))

    def test_clashes(self):
        house = house_of("f fun x plus x 1", "p fun x two x x")
        for text, place, why in (("fun x first call f x", (0,), "kinds"), ("fun x call f call p x", (0,), "kinds"), ("fun x ask out x", (0,), "deed"),
                                 ("fun x askof h get x", (0,), "answerer"), ("fun x past out 1", (0,), "deed"), ("fun x first call p two x 1", None, None)):
            if place is None:
                house.twin().define("g", term_in(text))
                continue
            with self.refused(house, Clash, place=place, why=why):
                house.define("g", term_in(text))

    def test_kinds_stand_open(self):
        house = house_of("i fun x x", "g fun x two call i x call call i i 1")
        self.assertEqual(house.kind("g"), ("fun", ("any", 0), ((), 0), ("pair", ("any", 0), "number")))

    def test_rounds(self):
        house = house_of("a fun x x", "b fun x call a x", "c fun x call b x")
        for text in ("fun x call b x", "fun x call c x", "fun x two call b x call c x"):
            with self.refused(house, Round, name="a"):
                house.define("a", term_in(text))
        with self.refused(house, Round, name="b"):
            house.define("b", term_in("fun x call c x"))
        house.define("c", term_in("fun x call a x"))
        house.define("b", term_in("fun x call c x"))
        self.assertEqual((house.needs("b"), house.needs("c")), (["a", "c"], ["a"]))

    def test_broken(self):
        house = house_of("f fun x plus x 1", "g fun x times 2 call f x", "e fun x plus call g x 3", "h fun x call f x", "d fun x x")
        # The first by names, straight or not.
        with self.refused(house, Broken, other="e"):
            house.define("f", term_in("fun x two x x"))
        with self.refused(house, Broken, other="e"):
            house.define("g", term_in("fun x two x x"))
        house.define("d", term_in("fun x two x x"))
        house.drop("e")
        with self.refused(house, Broken, other="g"):
            house.define("f", term_in("fun x two x x"))
        house.drop("g")
        house.define("f", term_in("fun x two x x"))
        self.assertEqual(house.kind("h"), ("fun", ("any", 0), ((), 0), ("pair", ("any", 0), ("any", 0))))

    def test_kinds_of_those_that_need_it_follow(self):
        house = house_of("f fun x x", "g fun x call f x", "h fun x call g x")
        house.define("f", term_in("fun x ask get x"))
        self.assertEqual(house.kind("h"), ("fun", "number", (("get",), 0), "number"))
        house.undo()
        self.assertEqual(house.kind("h"), ("fun", ("any", 0), ((), 0), ("any", 0)))

    def test_at_most_ten(self):
        house = house_of(*[f"{name} fun x x" for name in NAMES[:10]])
        with self.refused(house, TooMany, many=10):
            house.define("k", term_in("7"))
        # Last of all.
        for name, text, error, fields in (("k", "fun x y", NoName, {"name": "y"}), ("k", "fun x first 1", Clash, {"place": (0,), "why": "kinds"})):
            with self.refused(house, error, **fields):
                house.define(name, term_in(text))
        house.define("a", term_in("7"))
        house.drop("b")
        house.define("k", term_in("7"))

    def test_of_several_the_one_told_first(self):
        house = house_of("f fun x plus x 1", "g fun x call f x", "e fun x call g x", sheet=())
        with self.refused(house, BadName, name="Q"):
            house.define("Q", None)
        with self.refused(house, BadForm, thing=term_in("call y y")):
            house.define("f", term_in("call y y"))
        with self.refused(house, NoName, name="f"):
            house.define("f", term_in("fun x first call f call g 1"))
        # A clash ahead of a round, a round ahead of what would be broken.
        with self.refused(house, Clash, place=(0,), why="kinds"):
            house.define("f", term_in("fun x first call g x"))
        with self.refused(house, Round, name="f"):
            house.define("f", term_in("fun x two x call g x"))
        with self.refused(house, Broken, other="e"):
            house.define("g", term_in("7"))


class AskedTest(Refusing):
    def test_names_that_are_no_programs(self):
        house = house_of("f fun x x")
        for name in ("g", "", "F"):
            for ask in (house.drop, house.term, house.kind, house.needs, house.whole):
                with self.refused(house, NoName, name=name):
                    ask(name)
                with self.refused(house, NoName, name=name):
                    ask(name=name)

    def test_drop(self):
        house = house_of("a fun x x", "c fun x call a x", "b fun x call a x", "d fun x call c x")
        with self.refused(house, Used, other="b"):
            house.drop("a")
        with self.refused(house, Used, other="d"):
            house.drop("c")
        self.assertIsNone(house.drop("d"))
        house.drop("c")
        with self.refused(house, Used, other="b"):
            house.drop("a")
        house.drop("b")
        house.drop("a")
        self.assertEqual((house.names(), house.deeds()), ([], 8))

    def test_whole_in_its_order(self):
        house = house_of("z 1", "y fun x z", "a fun x call y z", "m 2", "b fun x two call a m call y m")
        self.assertEqual(text_of(house.whole("b")),
                         "let m 2 let z 1 let y fun x z let a fun x call y z fun x two call a m call y m")
        self.assertEqual(house.needs("b"), ["a", "m", "y", "z"])
        self.assertEqual(text_of(house.whole("z")), "1")
        # Of several that may come the first by name, also one that may only since the last one.
        house = house_of("c 1", "b fun x c", "a 2", "d fun x two b a", "e fun x two d c")
        self.assertEqual(text_of(house.whole("e")), "let a 2 let c 1 let b fun x c let d fun x two b a fun x two d c")
        house = house_of("d 1", "a fun x d", "c 2", "e fun x two a c")
        self.assertEqual(text_of(house.whole("e")), "let c 2 let d 1 let a fun x d fun x two a c")

    def test_kinds_are_those_of_the_whole(self):
        house = house_of("i fun x x", "t fun f fun x call f call f x", "g fun x ask get call i x", "e fun x call call t g x",
                         "p fun x two call call t i x ask say 1", "u fun x under h askof h get call e 1 y two y x 1 quick get u u")
        for name in house.names():
            self.assertEqual(house.kind(name), kind_of(house.whole(name), SHEET), name)

    def test_told_lists_are_the_askers_own(self):
        house = house_of("f fun x x", "g fun x call f x")
        number = house.start(term_in("call g ask get 1"))
        house.go(number)
        before = state(house)
        for told in (house.names(), house.needs("g"), house.runs(), house.trace(number), house.log()):
            told.append(7)
        self.assertEqual(state(house), before)
        self.assertIsNot(house.names(), house.names())
        self.assertIsNot(house.needs("f"), house.needs("f"))


class RunsTest(Refusing):
    def test_start_go_answer(self):
        house = house_of("f fun x plus x 1")
        number = house.start(term_in("call f ask get 5"))
        self.assertEqual((number, house.runs()), (0, [0]))
        self.assertEqual((house.outcome(0), house.trace(0), house.counts(0)), (("going",), [], (0, 0)))
        # let's T, name, get, num, ask
        self.assertEqual(house.go(0, steps=2), 2)
        self.assertEqual(house.outcome(0), ("going",))
        self.assertEqual(house.go(number=0), 3)
        self.assertEqual(house.go(0), 0)
        self.assertEqual((house.outcome(0), house.trace(0), house.counts(0)), (("asks", "get", 5), [("ask", "get", 5)], (0, 1)))
        self.assertIsNone(house.answer(number=0, value=9))
        self.assertEqual(house.outcome(0), ("going",))
        house.go(0)
        self.assertEqual((house.outcome(0), house.counts(0)), (("done", 10), (1, 1)))
        self.assertEqual(house.go(0), 0)
        self.assertEqual(house.deeds(), 1 + 1 + 3 + 1 + 2)

    def test_steps_where_nothing_is_told(self):
        house = house_of("f rec f n if n call f less n 1 0")
        house.start(term_in("call f 150"), most=200)
        self.assertEqual((house.go(0), house.outcome(0)), (1000, ("going",)))
        self.assertEqual(house.go(0, steps=0), 0)
        house.go(0)
        self.assertEqual((house.outcome(0), house.counts(0)), (("done", 0), (151, 0)))

    def test_most(self):
        house = house_of("f rec f n if n call f less n 1 0")
        for most, outcome in ((5, ("long",)), (6, ("done", 0))):
            number = house.start(term=term_in("call f 5"), most=most)
            house.go(number)
            self.assertEqual(house.outcome(number), outcome)
        number = house.start(term_in("call f 100"))
        house.go(number)
        self.assertEqual((house.outcome(number), house.counts(number)), (("long",), (100, 0)))
        with self.assertRaises(TypeError):
            house.start(term_in("7"), 5)
        with self.assertRaises(TypeError):
            house.go(0, 5)

    def test_it_is_a_machine_of_the_whole(self):
        house = house_of("c 3", "g fun x times x c", "f fun x call g plus x c")
        house.start(term_in("two call f 1 c"))
        machine = Machine(rows_of(term_in("let c 3 let g fun x times x c let f fun x call g plus x c two call f 1 c")))
        while True:
            done = house.go(0, steps=3)
            self.assertEqual(machine.go(steps=3), done)
            self.assertEqual((house.outcome(0), house.counts(0)), (machine.outcome(), machine.counts()))
            if done == 0:
                break
        self.assertEqual(house.outcome(0), ("done", (12, 3)))

    def test_refused_starts(self):
        house = house_of("f fun x plus x 1")
        with self.refused(house, NoName, name="g"):
            house.start(term_in("two h call g f"))
        with self.refused(house, NoName, name="y"):
            house.start(term_in("first y"))
        with self.refused(house, Clash, place=(), why="kinds"):
            house.start(term_in("first call f 1"))
        with self.refused(house, Clash, place=(), why="deed"):
            house.start(term_in("ask out 1"))
        with self.refused(house, Clash, place=(0,), why="answerer"):
            house.start(term_in("first askof h get 1"))
        for _ in range(5):
            house.start(term_in("f"))
        with self.refused(house, TooMany, many=5):
            house.start(term_in("f"))
        with self.refused(house, NoName, name="y"):
            house.start(term_in("first y"))
        with self.refused(house, Clash, place=(), why="kinds"):
            house.start(term_in("first 1"))

    def test_no_such_run(self):
        house = house_of("f fun x x")
        house.start(term_in("7"))
        for number in (1, 4, 997, -1):
            for ask in (house.go, house.stop, house.outcome, house.trace, house.counts):
                with self.refused(house, NoRun, number=number):
                    ask(number)
            for value in (7, None, "x"):
                with self.refused(house, NoRun, number=number):
                    house.answer(number, value)

    def test_no_run_ahead_of_not_asked_ahead_of_a_bad_answer(self):
        house = house_of("f fun x x")
        house.start(term_in("ask get 1"))
        for value in (7, 997, None, "x", (1, 2)):
            with self.refused(house, NoRun, number=1):
                house.answer(1, value)
            with self.refused(house, NotAsked, number=0):
                house.answer(0, value)
        house.go(0)
        for value in (997, -1, True, False, None, "7", (1, 2), [1], (), (7,)):
            with self.refused(house, BadAnswer, value=value):
                house.answer(0, value)
        house.answer(0, 996)
        with self.refused(house, NotAsked, number=0):
            house.answer(0, 996)
        house.go(0)
        with self.refused(house, NotAsked, number=0):
            house.answer(0, 7)
        self.assertEqual(house.outcome(0), ("done", 996))

    def test_answers_as_the_sheet_has_them(self):
        deep = ("pair", ("pair", ("pair", "number", "number"), "number"), "number")
        house = House((("a", "number", deep), ("say", "number", ("pair", "number", "number"))))
        house.start(term_in("two ask a 1 ask say 2"))
        house.go(0)
        for value in (7, (1, 2), ((1, 2), 3), (((1, 2), 3), 997), (((1, 2), 3), True), (((1, 2), 3), (4, 5)), [((1, 2), 3), 4],
                      (((1, 2), 3), 4, 5), (((1, [2]), 3), 4), ((((1, 1), 2), 3), 4)):
            with self.refused(house, BadAnswer, value=value):
                house.answer(0, value)
        house.answer(0, (((1, 2), 3), 4))
        house.go(0)
        with self.refused(house, BadAnswer, value=3):
            house.answer(0, 3)
        house.answer(0, (5, 6))
        house.go(0)
        self.assertEqual(house.outcome(0), ("done", ((((1, 2), 3), 4), (5, 6))))

    def test_the_least_free_number(self):
        house = House(SHEET)
        self.assertEqual([house.start(term_in("7")) for _ in range(4)], [0, 1, 2, 3])
        house.stop(1)
        house.stop(number=0)
        self.assertEqual(house.runs(), [2, 3])
        self.assertEqual(house.start(term_in("7")), 0)
        self.assertEqual(house.start(term_in("7")), 1)
        self.assertEqual(house.start(term_in("7")), 4)
        house.undo()
        house.stop(2)
        self.assertEqual(house.start(term_in("7")), 2)
        house.undo()
        house.undo()
        self.assertEqual(house.runs(), [0, 1, 2, 3])
        self.assertEqual(house.start(term_in("7")), 4)

    def test_runs_go_on_by_what_stood_when_they_began(self):
        for change in (lambda house: house.define("f", term_in("fun x 500")), lambda house: house.drop("f"),
                       lambda house: (house.define("f", term_in("fun x 500")), house.undo()),
                       lambda house: house.define("f", term_in("7"))):
            house = house_of("f fun x plus x 1")
            house.start(term_in("call f ask get 5"))
            house.go(0, steps=2)
            change(house)
            house.go(0)
            house.answer(0, 9)
            house.go(0)
            self.assertEqual(house.outcome(0), ("done", 10))


class UndoTest(Refusing):
    def test_each_deed(self):
        house = House(SHEET)
        states = [standing(house)]

        def done():
            states.append(standing(house))

        for do in (lambda: house.define("f", term_in("fun x plus x 1")), lambda: house.define("g", term_in("fun x call f x")),
                   lambda: house.define("f", term_in("fun x ask get x")), lambda: house.start(term_in("call g 5")), lambda: house.go(0, steps=3),
                   lambda: house.start(term_in("7")), lambda: house.go(1), lambda: house.go(0), lambda: house.answer(0, 9), lambda: house.stop(1),
                   lambda: house.go(0), lambda: house.go(0), lambda: house.drop("g"), lambda: house.stop(0), lambda: house.drop("f")):
            do()
            done()
        self.assertEqual(house.deeds(), 15)
        for at in range(14, -1, -1):
            self.assertIs(house.undo(), True)
            self.assertEqual((standing(house), house.deeds()), (states[at], at))
        self.assertIs(house.undo(), False)
        self.assertEqual((standing(house), house.deeds()), (states[0], 0))
        self.assertTrue(house == House(SHEET))

    def test_what_is_undone_is_not_undone_again(self):
        house = house_of("a 1", "b 2")
        house.undo()
        house.define("c", term_in("3"))
        self.assertEqual((house.names(), house.deeds()), (["a", "c"], 2))
        house.undo()
        house.undo()
        self.assertEqual((house.names(), house.undo()), ([], False))

    def test_refused_deeds_are_not_undone(self):
        house = house_of("a 1")
        for name in ("Q", "a"):
            with self.assertRaises((BadName, NoName)):
                house.define(name, term_in("fun x a"))
        self.assertEqual(house.deeds(), 1)
        house.undo()
        self.assertEqual(house.names(), [])

    def test_a_run_that_is_undone_goes_on_as_it_did(self):
        house = House(SHEET)
        house.start(term_in("deep plus ask get 1 first ask say 2 x x 1 many get u k plus call k 1 call k 2"))
        house.go(0)
        twin = house.twin()
        for _ in range(2):
            house.answer(0, (10, 20))
            house.go(0)
            house.answer(0, (30, 40))
            house.go(0)
            self.assertEqual(house.outcome(0), ("done", 1 + 10 + 2 + 30))
            for _ in range(4):
                house.undo()
            self.assertTrue(house == twin)
            self.assertEqual(house.outcome(0), ("asks", "say", 2))

    def test_forty_deeds(self):
        house = House(SHEET)
        for number in range(40):
            house.define("f", ("num", number))
        self.assertEqual((house.deeds(), house.term("f")), (40, ("num", 39)))
        for number in range(38, -1, -1):
            house.undo()
            self.assertEqual(house.term("f"), ("num", number))
        house.undo()
        self.assertEqual((house.names(), house.undo()), ([], False))


class TwinTest(Refusing):
    def test_twin(self):
        house = house_of("f fun x plus x 1")
        house.start(term_in("call f ask get 5"))
        house.go(0)
        house.do([("undo",)])
        twin = house.twin()
        self.assertIsNot(twin, house)
        self.assertTrue(twin == house)
        self.assertEqual(state(twin)[:5], state(house)[:5])
        self.assertEqual((twin.log(), house.log()), ([], [("in", 1), ("out", 1)]))
        # Each goes its own way.
        before = state(house)
        twin.go(0)
        self.assertFalse(twin == house)
        twin.undo()
        self.assertTrue(twin == house)
        twin.define("g", term_in("fun x call f x"))
        twin.stop(0)
        while twin.undo():
            pass
        self.assertEqual((twin.names(), twin.runs()), ([], []))
        self.assertEqual(state(house), before)

    def test_equal(self):
        house, other = house_of("f fun x x"), house_of("f 7", "f fun x x")
        # Not what can be undone, nor the log.
        other.do([])
        self.assertTrue(house == other)
        self.assertFalse(house != other)
        for change in (lambda: other.define("f", term_in("fun y y")), lambda: other.define("g", term_in("7")), lambda: other.drop("f"),
                       lambda: other.start(term_in("7"))):
            change()
            self.unlike(house, other)
            other.undo()
            self.assertTrue(house == other)
        house.start(term_in("plus 1 2"))
        other.start(term_in("plus 1 2"))
        self.assertTrue(house == other)
        house.go(0, steps=1)
        self.unlike(house, other)
        other.go(0, steps=1)
        self.assertTrue(house == other)
        house.go(0)
        other.go(0, steps=1)
        self.unlike(house, other)
        other.go(0)
        self.assertTrue(house == other)
        house.stop(0)
        self.unlike(house, other)
        self.unlike(House(SHEET), House(SHEET[:1]))
        self.unlike(House(SHEET), House(()))
        left, right = House(SHEET), House(SHEET)
        left.start(term_in("7"))
        right.start(term_in("7"), most=5)
        self.unlike(left, right)
        left.start(term_in("7"), most=5)
        right.start(term_in("7"))
        left.stop(0)
        right.stop(1)
        self.unlike(left, right)

    def test_things_of_other_classes(self):
        house = House(())
        for thing in (None, 7, "house", (), [], {}, House, Machine([("num", 1), ("end",)])):
            self.assertIs(house == thing, False)
            self.assertIs(thing == house, False)
            self.assertIs(house != thing, True)

    def unlike(self, house, other):
        self.assertIs(house == other, False)
        self.assertIs(other == house, False)
        self.assertIs(house != other, True)

    def test_made_anew_of_what_stands(self):
        house = house_of("a 1", "f fun x plus x a", "g fun x call f call f x")
        house.define("a", term_in("5"))
        with self.assertRaises(Used):
            house.drop("f")
        house.start(term_in("call g ask get 1"))
        house.start(term_in("7"))
        house.go(0)
        house.undo()
        house.drop("g")
        house.undo()
        house.stop(1)
        house.do([("define", "a", term_in("6")), ("undo",)])
        with self.assertRaises(Round):
            house.do([("define", "b", term_in("6")), ("define", "a", term_in("fun x call f x"))])
        anew = house_of("a 5", "f fun x plus x a", "g fun x call f call f x")
        anew.start(term_in("call g ask get 1"))
        self.assertTrue(anew == house)
        self.assertEqual(standing(anew), standing(house))

    def test_handed_things_stay(self):
        term = term_in("fun x ask get x")
        before = frozen((SHEET, term))
        house = House(sheet=SHEET)
        house.define("f", term)
        house.start(term_in("call f 1"))
        house.go(0)
        house.answer(0, 5)
        self.assertEqual(frozen((SHEET, term)), before)


if __name__ == "__main__":
    unittest.main()
