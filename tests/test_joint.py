"""joint.py ([21])."""

import unittest

from handledeeds.errors import Clash
from handledeeds.joint import is_of, joined_of, record_of, shows_joined, shows_record, told_in
from handledeeds.kindcheck import shows_kinds
from handledeeds.kindpapers import paper_of
from handledeeds.kinds import put_in, put_in_roster
from handledeeds.kindtext import kind_in
from handledeeds.look import kind_of
from handledeeds.machine import Machine
from handledeeds.rows import rows_of
from handledeeds.termtext import term_in
from handledeeds.treerun import told_of
from tests.chance import SHEET, Maker
from tests.samples import frozen
from tests.slowmachine import SlowMachine
from tests.test_treerun import RUNS

N = "number"
PAIR = ("pair", N, N)

# A text, answers, the record.
RECORDS = [
    ("7", (), [(2, ("done", 7))]),
    ("fun x x", (), [(2, ("done", "fun"))]),
    ("plus 1 2", (5, 6), [(4, ("done", 3))]),
    ("ask get 1", (5,), [(2, ("ask", "get", 1)), (2, ("answer", 5)), (3, ("done", 5))]),
    ("two ask get 1 ask say 2", (5, (6, 7), 8),
     [(2, ("ask", "get", 1)), (2, ("answer", 5)), (4, ("ask", "say", 2)), (4, ("answer", (6, 7))), (6, ("done", (5, (6, 7))))]),
    # ward, num, unward, U, back, end
    ("ward 1 2", (), [(5, ("clean", 2)), (6, ("done", 1))]),
    ("deep ask get 1 x x 1 quick get u plus u 1", (), [(3, ("ask", "get", 1)), (11, ("done", 2))]),
    ("deep ward ask stop 1 two 2 3 x x 1 end stop u u", (), [(4, ("ask", "stop", 1)), (8, ("clean", (2, 3))), (11, ("done", 1))]),
]

# With what a program is looked at, and answers.
LOOKED = [
    ("7", ()), ("fun x ask get x", ()), ("plus ask get 1 first ask say 2", (5, (6, 7))), ("ward ask get 1 two 2 3", None),
    ("deep plus ask get 1 ask get 2 x two x x 1 many get u k call k plus u 1", ()),
    ("under h let y askof h get 1 plus y ask get y x x 1 quick get u times 2 u", (9,)),
    ("let i fun x x two call i ask get 1 call call i i 2", (3,)), ("deep ward ask stop 1 7 x x 1 end stop u ask get u", (4,)),
]


def otherwise(thing):
    """What a thing would be with one thing in it otherwise, each once."""
    if type(thing) in (list, tuple):
        made = type(thing)
        yield list(thing) if made is tuple else tuple(thing)
        for at, part in enumerate(thing):
            yield made([*thing[:at], *thing[at + 1:]])
            yield made([*thing[:at], part, *thing[at:]])
            for other in otherwise(part):
                yield made([*thing[:at], other, *thing[at + 1:]])
    elif type(thing) is int:
        yield thing + 1
        yield thing - 1
        if thing in (0, 1):
            yield bool(thing)
        yield str(thing)
        yield None
    else:
        yield None
        yield thing + "x" if type(thing) is str else 7
        yield "get" if thing != "get" else "put"


THINGS = [None, True, False, 7, "done", (), [], [None], [()], [(2,)], [(2, ("done", 7), 3)], [[2, ["done", 7]]], ((2, ("done", 7)),),
          [(2, ["done", 7])], [(2, ("done",))], [(True, ("done", 7))], [(2, ("done", True))], [("done", 7)], [(2, ("answer", 7))],
          [(2, ("answer", None))], [(2, ("answer", [1, 2]))], [(2, ("answer", 7)), (2, ("done", 7))], [(2, (None, 7))], [(2, ([], 7))]]


class RecordTest(unittest.TestCase):
    def test_by_hand(self):
        for text, answers, record in RECORDS:
            rows = rows_of(term_in(text))
            before = frozen(rows)
            self.assertEqual(record_of(rows, answers=answers), record, text)
            self.assertEqual(record_of(rows=rows, answers=answers, most=50), record)
            self.assertIs(shows_record(rows, record), True)
            self.assertIs(shows_record(rows=rows, thing=record, most=50), True)
            self.assertEqual(frozen(rows), before)

    def test_where_it_does_not_come_to_its_end(self):
        for text, answers in (("ask get 1", ()), ("two ask get 1 ask get 2", (5,)), ("call 1 2", ()), ("first ask get 1", (5,)),
                              ("call rec f x call f x 1", ()), ("let x ask get 1 two x " + "two x " * 7 + "x", ((((1, 2), (3, 4)), ((1, 2), (3, 4))),))):
            self.assertIsNone(record_of(rows_of(term_in(text)), answers=answers), text)
        rows = rows_of(term_in("two ask get 1 ask get 2"))
        self.assertIsNone(record_of(rows, answers=(5, 6), most=1))
        self.assertIsNotNone(record_of(rows, answers=(5, 6), most=2))

    def test_of_all_runs(self):
        for text, outcome, trace, _ in RUNS:
            self.check(term_in(text), (), outcome, trace)

    def test_programs_by_chance(self):
        for seed in range(700):
            maker = Maker(seed)
            term = maker.closed(maker.one_of([4, 6, 8, 9]))
            answers = tuple([maker.one_of([0, 1, 2, (1, 2)]) for _ in range(10)])
            self.check(term, answers, *told_of(term, answers=answers))

    def check(self, term, answers, outcome, trace):
        rows = rows_of(term)
        record = record_of(rows, answers=answers)
        if outcome[0] != "done":
            self.assertIsNone(record)
            return
        self.assertEqual([event for _, event in record if event[0] not in ("answer", "done")], trace)
        slow = SlowMachine(term, answers)
        slow.run()
        self.assertEqual([steps for steps, event in record if event[0] != "answer"], [*slow.marks, slow.rows])
        machine = Machine(rows)
        for steps, event in record:
            machine.go(steps=steps - machine.steps())
            self.assertEqual(machine.steps(), steps)
            if event[0] == "answer":
                machine.answer(event[1])
            elif event[0] == "done":
                self.assertEqual(machine.outcome(), event)
            else:
                self.assertEqual(machine.trace()[-1], event)
        self.assertIs(shows_record(rows, record), True)

    def test_one_thing_otherwise(self):
        for text, _, record in RECORDS:
            rows = rows_of(term_in(text))
            for thing in otherwise(record):
                told = shows_record(rows, thing)
                self.assertIs(told, self.by_running(rows, thing), thing)

    def by_running(self, rows, thing):
        """Whether it is the record by what it tells to be answered, looked at in another way."""
        try:
            answers = [event[1] for _, event in thing if event[0] == "answer"]
            record = record_of(rows, answers=answers)
        except (TypeError, ValueError, IndexError, AttributeError):
            return False
        return repr(record) == repr(thing) and all(self.may_be(value) for value in answers)

    def may_be(self, value):
        return 0 <= value <= 996 if isinstance(value, int) else len(value) == 2 and all(self.may_be(part) for part in value)

    def test_another_answer_is_another_run(self):
        rows = rows_of(term_in("two ask get 1 7"))
        record = [(2, ("ask", "get", 1)), (2, ("answer", 5)), (4, ("done", (5, 7)))][:2]
        self.assertIs(shows_record(rows, [*record, (5, ("done", (5, 7)))]), True)
        self.assertIs(shows_record(rows, [record[0], (2, ("answer", 6)), (5, ("done", (6, 7)))]), True)
        self.assertIs(shows_record(rows, [record[0], (2, ("answer", 6)), (5, ("done", (5, 7)))]), False)
        four = (((1, 2), 3), 4)
        self.assertIs(shows_record(rows, [record[0], (2, ("answer", four)), (5, ("done", (four, 7)))]), True)
        # What answer doesn't let.
        for value in (997, -1, True, None, "7", (1,), (1, 2, 3), [1, 2], (1, True), (four, 5), (1, (2, (3, (4, 5)))), (1, 997), ()):
            self.assertIs(shows_record(rows, [record[0], (2, ("answer", value)), (5, ("done", (value, 7)))]), False, value)

    def test_cut_and_more(self):
        for text, _, record in RECORDS:
            rows = rows_of(term_in(text))
            for at in range(len(record)):
                self.assertIs(shows_record(rows, record[:at]), False)
                self.assertIs(shows_record(rows, record[at + 1:]), False)
            self.assertIs(shows_record(rows, [*record, record[-1]]), False)
            self.assertIs(shows_record(rows, [*record, (99, ("answer", 5))]), False)

    def test_another_most(self):
        rows = rows_of(term_in("two ask get 1 ask get 2"))
        record = record_of(rows, answers=(5, 6))
        for most, told in ((100, True), (2, True), (1, False), (0, False)):
            self.assertIs(shows_record(rows, record, most=most), told)

    def test_things_of_any_make(self):
        for text in ("7", "ask get 1", "ward 1 2"):
            rows = rows_of(term_in(text))
            for thing in THINGS:
                before = frozen(thing)
                self.assertIs(shows_record(rows, thing), False, thing)
                self.assertEqual(frozen(thing), before)

    def test_told_lists_are_the_askers_own(self):
        rows = rows_of(term_in("ask get 1"))
        record = record_of(rows, answers=[5])
        again = list(record)
        record.clear()
        self.assertEqual(record_of(rows, answers=[5]), again)


class JoinedTest(unittest.TestCase):
    def joined(self, text, answers):
        return joined_of(term_in(text), SHEET, answers=answers or ())

    def test_all_three_parts(self):
        for text, answers in LOOKED:
            term = term_in(text)
            answers = (5,) if answers is None and "two" not in text else answers
            if answers is None:
                # U of a ward is a number.
                with self.assertRaises(Clash):
                    joined_of(term, SHEET)
                continue
            joined = joined_of(term=term, sheet=SHEET, answers=answers, most=60)
            self.assertIs(type(joined), tuple)
            paper, rows, record = joined
            self.assertEqual((paper, rows, record), (paper_of(term, SHEET), rows_of(term), record_of(rows_of(term), answers=answers)))
            self.assertIs(shows_joined(term, SHEET, joined), True)
            self.assertIs(shows_joined(term=term, sheet=SHEET, thing=joined, most=60), True)
            self.assertEqual(told_in(thing=joined), told_of(term, answers=answers)[0][1])
            self.assertIs(is_of(told_in(joined), kind_of(term, SHEET)), True)

    def test_clashes(self):
        for text, place, why in (("plus 1 first 2", (1,), "kinds"), ("x", (), "name"), ("askof h get 1", (), "answerer"), ("ask out 1", (), "deed"),
                                 ("under h fun x askof h get x y y 1 quick get u u", (), "out")):
            with self.assertRaises(Clash) as caught:
                joined_of(term_in(text), SHEET)
            self.assertEqual((caught.exception.place, caught.exception.why), (place, why))
            self.assertIs(shows_joined(term_in(text), SHEET, ([], [], [])), False)

    def test_where_there_is_none(self):
        for text, answers in (("ask get 1", ()), ("call rec f x call f x 1", ()), ("two ask get 1 ask get 2", (5,))):
            self.assertIsNone(joined_of(term_in(text), SHEET, answers=answers), text)
        # An answer that the record would tell isn't as the sheet has it; one that isn't used may be what it is.
        self.assertIsNone(joined_of(term_in("ask get 1"), SHEET, answers=((1, 2),)))
        self.assertIsNone(joined_of(term_in("ask say 1"), SHEET, answers=(5,)))
        self.assertIsNone(joined_of(term_in("ask say 1"), SHEET, answers=((1, (2, 3)),)))
        self.assertIsNone(joined_of(term_in("two ask get 1 ask say 1"), SHEET, answers=(5, 6)))
        self.assertIsNotNone(joined_of(term_in("two ask get 1 ask say 1"), SHEET, answers=(5, (6, 7), (8, 9))))
        self.assertIsNone(joined_of(term_in("two ask get 1 ask get 2"), SHEET, answers=(5, 6), most=1))

    def test_another_programs_parts(self):
        joined = [(term_in(text), self.joined(text, answers)) for text, answers in LOOKED if answers is not None]
        for term, (paper, rows, record) in joined:
            for other, (other_paper, other_rows, other_record) in joined:
                same = term == other
                self.assertIs(shows_joined(term, SHEET, (other_paper, rows, record)), same)
                self.assertIs(shows_joined(term, SHEET, (paper, other_rows, record)), same)
                self.assertIs(shows_joined(term, SHEET, (paper, rows, other_record)), same)
                self.assertIs(shows_joined(term, SHEET, (other_paper, other_rows, other_record)), same)

    def test_other_papers_of_kinds(self):
        term = term_in("let i fun x x two call i ask get 1 fun y y")
        paper, rows, record = joined_of(term, SHEET, answers=(5,))
        other = [(place, put_in(kind, {0: PAIR, 1: N, 2: N, 3: N, 4: N}, {0: (("put",), None)}), put_in_roster(roster, {}, {0: (("put",), None)}))
                 for place, kind, roster in paper]
        self.assertIs(shows_kinds(term, SHEET, other), True)
        self.assertNotEqual(other, paper)
        self.assertIs(shows_joined(term, SHEET, (other, rows, record)), True)
        self.assertIs(shows_joined(term, SHEET, (other[:-1], rows, record)), False)
        self.assertIs(shows_joined(term, SHEET, ([(*triple[:1], N, triple[2]) for triple in paper], rows, record)), False)

    def test_answers_that_are_not_as_the_sheet_has_them(self):
        term = term_in("ask get 1")
        paper, rows, _ = joined_of(term, SHEET, answers=(5,))
        for value, told in ((5, True), (6, True), ((1, 2), False)):
            record = record_of(rows, answers=(value,))
            self.assertIs(shows_record(rows, record), True)
            self.assertIs(shows_joined(term, SHEET, (paper, rows, record)), told)

    def test_another_sheet_and_another_most(self):
        term = term_in("two ask get 1 ask get 2")
        joined = joined_of(term, SHEET, answers=(5, 6))
        self.assertIs(shows_joined(term, SHEET, joined, most=2), True)
        self.assertIs(shows_joined(term, SHEET, joined, most=1), False)
        self.assertIs(shows_joined(term, (("get", N, PAIR),), joined), False)
        self.assertIs(shows_joined(term, (), joined), False)

    def test_things_of_any_make(self):
        for text, answers in (("7", ()), ("ask get 1", (5,))):
            term = term_in(text)
            paper, rows, record = joined_of(term, SHEET, answers=answers)
            for thing in [*THINGS, [paper, rows, record], (paper, rows), (paper, rows, record, record), (rows, paper, record), ((), (), ())]:
                self.assertIs(shows_joined(term, SHEET, thing), False, thing)
            for thing in THINGS:
                for joined in ((thing, rows, record), (paper, thing, record), (paper, rows, thing)):
                    same = repr(joined) == repr((paper, rows, record))
                    self.assertIs(shows_joined(term, SHEET, joined), same, joined)
            for at, part in enumerate((paper, rows, record)):
                for other in otherwise(part):
                    joined = tuple([*(paper, rows, record)[:at], other, *(paper, rows, record)[at + 1:]])
                    told = shows_joined(term, SHEET, joined)
                    self.assertIs(told, at == 0 and shows_kinds(term, SHEET, other) or at == 2 and shows_record(rows, other))

    def test_programs_by_chance(self):
        ended = 0
        for seed in range(400):
            maker = Maker(seed)
            term = maker.closed(maker.one_of([4, 6, 8]))
            answers = tuple([maker.one_of([0, 1, 2, (1, 2)]) for _ in range(6)])
            try:
                joined = joined_of(term, SHEET, answers=answers)
            except Clash:
                continue
            if joined is None:
                continue
            before = frozen(joined)
            self.assertIs(shows_joined(term, SHEET, joined), True)
            self.assertIs(is_of(told_in(joined), kind_of(term, SHEET)), True)
            self.assertEqual(frozen(joined), before)
            ended += 1
        self.assertGreater(ended, 200)


class IsOfTest(unittest.TestCase):
    def test_by_hand(self):
        for told, kind, is_so in (
                (7, "number", True), (0, "number", True), ("fun", "number", False), ((1, 2), "number", False), ((1, 2), "pair number number", True),
                (1, "pair number number", False), ("fun", "pair number number", False), (((1, 2), 3), "pair pair number number number", True),
                ((1, (2, 3)), "pair pair number number number", False), ((1, "fun"), "pair number fun number [ get r0 ] a0", True),
                ((1, 2), "pair number fun number [ ] a0", False), ("fun", "fun a0 [ ] a0", True), (1, "fun a0 [ ] a0", False),
                ((1, 2), "fun a0 [ ] a0", False), (7, "a0", True), ("fun", "a3", True), ((1, ("fun", 2)), "a0", True),
                ((1, ("fun", 2)), "pair a0 a0", True), ((1, 2), "pair a0 pair a1 a2", False), ((1, (2, "fun")), "pair a0 pair a1 a2", True)):
            self.assertIs(is_of(told, kind_in(kind)), is_so, (told, kind))
            self.assertIs(is_of(told=told, kind=kind_in(kind)), is_so)

    def test_far_deeper(self):
        told, kind = 7, "number"
        for _ in range(3000):
            told, kind = (told, 7), ("pair", kind, ("any", 0))
        self.assertIs(is_of(told, kind), True)


if __name__ == "__main__":
    unittest.main()
