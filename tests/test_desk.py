"""desk.py ([22])."""

import unittest

from handledeeds.desk import answers
from handledeeds.errors import BadRow
from handledeeds.termtext import text_of
from tests.samples import spread

SHEET_ROWS = "deed get number number\ndeed say number pair number number\n"

# Rows and their answers.
ROWS = [
    ("define f fun x plus x 1", "done"), ("define g fun x call f ask get x", "done"), ("kind f", "fun number [ r0 ] number"),
    ("kind g", "fun number [ get r0 ] number"), ("needs f", "-"), ("needs g", "f"), ("names", "f g"), ("runs", "-"), ("deeds", "2"),
    ("start call g 5", "0"), ("outcome 0", "going"), ("trace 0", "-"), ("counts 0", "0 0"), ("go 0", "asks get 5"), ("outcome 0", "asks get 5"),
    ("trace 0", "ask:get:5"), ("counts 0", "1 1"), ("answer 0 7", "done"), ("outcome 0", "going"), ("go 0", "done 8"), ("go 0", "done 8"),
    ("counts 0", "2 1"), ("deeds", "7"), ("undo", "done"), ("undo", "done"), ("outcome 0", "going"), ("undo", "done"),
    ("start ward two 1 two fun x x ask say 2 3", "1"), ("runs", "0 1"), ("go 1", "asks say 2"), ("answer 1 ( 7 8 )", "done"),
    ("go 1", "done (1,(fun,(7,8)))"), ("trace 1", "ask:say:2 clean:3"), ("stop 0", "done"), ("runs", "1"), ("drop g", "done"), ("names", "f"),
    ("drop f", "done"),
]


def told(rows, steps=None):
    text = SHEET_ROWS + "\n".join(rows)
    return answers(text) if steps is None else answers(text, steps=steps)


class AnswersTest(unittest.TestCase):
    def test_each_word(self):
        rows = [row for row, _ in ROWS]
        self.assertEqual(told(rows), [answer for _, answer in ROWS])
        self.assertEqual(answers(text=SHEET_ROWS + "\n".join(rows), steps=1000), [answer for _, answer in ROWS])
        self.assertTrue(all(type(answer) is str for answer in told(rows)))

    def test_of_nothing(self):
        for text in ("", "\n", "\n\n\n", SHEET_ROWS, "\n" + SHEET_ROWS + "\n"):
            self.assertEqual(answers(text), [])
        self.assertEqual(told(["names", "runs", "deeds", "undo"]), ["-", "-", "0", "nothing"])
        self.assertEqual(answers("names\nundo"), ["-", "nothing"])

    def test_rows_without_a_sign(self):
        self.assertEqual(answers("\ndeed get number number\n\n\nstart ask get 1\n\ngo 0\n\n"), ["0", "asks get 1"])

    def test_outcomes(self):
        for text, outcome in (("7", "done 7"), ("fun x x", "done fun"), ("two 1 two fun x x 2", "done (1,(fun,2))"), ("ask get 1", "asks get 1"),
                              ("two two 1 2 ask say 3", "asks say 3"), ("call rec f x call f x 1", "long"),
                              ("let x two 1 2 two two x x two x 3", "done (((1,2),(1,2)),((1,2),3))")):
            self.assertEqual(told(["start " + text, "go 0", "outcome 0"]), ["0", outcome, outcome])
        self.assertEqual(answers("deed put pair number number number\nstart ask put two 1 2\ngo 0\ntrace 0"),
                         ["0", "asks put (1,2)", "ask:put:(1,2)"])
        # No program that can be looked at is stuck.
        self.assertEqual(told(["start call 1 2"]), ["refused Clash"])

    def test_traces(self):
        self.assertEqual(told(["start deep ward plus ask get 1 ask get 2 3 x x 1 quick get u u", "go 0", "trace 0", "counts 0"]),
                         ["0", "done 3", "ask:get:1 ask:get:2 clean:3", "0 2"])

    def test_steps(self):
        rows = ["start plus 1 plus 2 ask get 3", "go 0", "go 0", "go 0", "answer 0 9", "go 0", "go 0"]
        self.assertEqual(told(rows), ["0", "asks get 3", "asks get 3", "asks get 3", "done", "done 12", "done 12"])
        self.assertEqual(told(rows, 3), ["0", "going", "asks get 3", "asks get 3", "done", "done 12", "done 12"])
        self.assertEqual(told(rows, 2), ["0", "going", "asks get 3", "asks get 3", "done", "going", "done 12"])
        self.assertEqual(told(rows, 0), ["0", "going", "going", "going", "refused NotAsked", "going", "going"])
        loop = ["define f rec f n if n let a call f less n 1 a 0", "start call f 98", "go 0"]
        self.assertEqual(told(loop), ["done", "0", "going"])
        self.assertEqual(told(loop, 2000), ["done", "0", "done 0"])
        with self.assertRaises(TypeError):
            answers("", 5)

    def test_refusals(self):
        start = ["define f fun x plus x 1", "define g fun x call f x", "start ask get 1", "go 0", "start 7"]
        for row, answer in (
                ("define h plus 1 2", "BadForm"), ("define h two 1 2", "BadForm"), ("define h f", "BadForm"), ("define h fun x y", "NoName"),
                ("define f fun x f", "NoName"), ("define h fun x first f", "Clash"), ("define h fun x ask put x", "Clash"),
                ("define f fun x call g x", "Round"), ("define f 7", "Broken"), ("drop f", "Used"), ("drop h", "NoName"), ("kind h", "NoName"),
                ("needs h", "NoName"), ("start h", "NoName"), ("start first f", "Clash"), ("go 2", "NoRun"), ("go 9999", "NoRun"),
                ("answer 2 1", "NoRun"), ("answer 1 1", "NotAsked"), ("answer 0 997", "BadAnswer"), ("answer 0 9999", "BadAnswer"),
                ("answer 0 ( 1 2 )", "BadAnswer"), ("answer 0 " + "( 1 " * 40 + "1" + " )" * 40, "BadAnswer"), ("stop 2", "NoRun"),
                ("outcome 2", "NoRun"), ("trace 2", "NoRun"), ("counts 2", "NoRun")):
            self.assertEqual(told([*start, row, "names", "runs", "deeds"])[-4:], ["refused " + answer, "f g", "0 1", "5"], row)
        self.assertEqual(told(["start 7"] * 6)[-2:], ["4", "refused TooMany"])
        rows = [f"define {name} {number}" for number, name in enumerate("abcdefghijk")]
        self.assertEqual(told(rows)[-2:], ["done", "refused TooMany"])

    def test_pairs_that_are_answered(self):
        sheet = "deed a number pair pair pair number number number number\n"
        row = "answer 0 ( ( ( 1 2 ) 3 ) 996 )"
        self.assertEqual(answers(sheet + f"start ask a 1\ngo 0\n{row}\ngo 0"), ["0", "asks a 1", "done", "done (((1,2),3),996)"])

    def test_answers_of_other_rows_stay(self):
        self.assertEqual(told(["define f 1"]), ["done"])
        self.assertEqual(told(["names"]), ["-"])
        rows = told(["names"])
        rows.append("more")
        self.assertEqual(told(["names"]), ["-"])


# Rows that are not so written.
BAD_ROWS = [
    " ", "  ", " names", "names ", "names  ", "drop  f", "more", "Names", "names names", "names 1", "define", "define f", "define f ", "define F 1",
    "define fun 1", "define abcdefg 1", "define f 997", "define f fun x", "define f fun x x x", "define f (fun x x)", "define f fun  x x",
    "define f " + text_of(spread(121)), "define f " + "first " * 20 + "1", "drop", "drop F", "drop f g", "drop number", "start", "start ", "start +",
    "start 01", "go", "go -1", "go x", "go 00", "go 01", "go 10000", "go 0 5", "go 0.0", "answer", "answer 0", "answer 0 ", "answer x 1",
    "answer 0 x", "answer 0 10000", "answer 0 -1", "answer 0 01", "answer 0 1 2", "answer 0 ( 1 )", "answer 0 ( 1 2", "answer 0 ( 1 2 3 )", "answer 0 ( 1 2 3", "answer 0 ( 1 2 (",
    "answer 0 (1 2)", "answer 0 ( 1 2 ) )", "answer 0 ( )", "answer 0 )", "answer 0 ( ( 1 2 ) )", "answer 0 ( 1 10000 )", "answer 0 ( 1 x )",
    "answer 0 (1,2)", "answer 0 ( 1 2 ) 3", "stop", "stop f", "stop 0 0", "undo 1", "kind", "kind 1", "kind f g", "needs", "runs 0", "outcome",
    "outcome f", "outcome 10000", "trace", "counts", "deeds 1", "deed", "term f", "whole f", "log", "do", "twin", "sheet", "undo\t", "names\r",
]

BAD_DEED_ROWS = [
    "deed get number", "deed get", "deed get number number number", "deed Get number number", "deed number number number",
    "deed get fun number [ ] number number", "deed get a0 number", "deed get number a0", "deed get pair number number", "deed get pair number",
    "deed get pair pair pair pair number number number number number number", "deed get num number", "deed get number  number", "deed get number number ",
]


class BadRowTest(unittest.TestCase):
    def bad(self, text, row):
        with self.assertRaises(BadRow) as caught:
            answers(text)
        self.assertEqual(caught.exception.row, row, text)

    def test_rows_not_so_written(self):
        for row in BAD_ROWS:
            self.bad(row, 0)
            self.bad("names\n\n" + row + "\nmore", 2)
        for row in BAD_DEED_ROWS:
            self.bad(row, 0)
            self.bad("deed a number number\n\n" + row, 2)

    def test_the_first_one_ahead_of_all_answers(self):
        self.bad("names\nmore\nless", 1)
        self.bad("drop f\n\n\ngo x\n", 3)

    def test_deed_rows_ahead_of_all_others_rising(self):
        self.bad("names\ndeed get number number", 1)
        self.bad("deed a number number\nnames\ndeed b number number", 2)
        self.bad("deed b number number\ndeed a number number", 1)
        self.bad("deed a number number\ndeed a number number", 1)
        self.bad("\ndeed a number number\n\n\ndeed aa number number\ndeed a number number", 5)

    def test_six_deeds_and_seven(self):
        rows = [f"deed {name} number number" for name in "abcdefg"]
        self.assertEqual(answers("\n".join([*rows[:6], "names"])), ["-"])
        self.bad("\n".join(rows), 6)

    def test_kinds_of_deeds(self):
        four = "pair pair pair number number number number"
        self.assertEqual(answers(f"deed a {four} {four}\nnames"), ["-"])
        self.bad(f"deed a pair {four} number number", 0)

    def test_forty_rows_and_41(self):
        self.assertEqual(answers("\n".join(["names"] * 40)), ["-"] * 40)
        self.assertEqual(answers("\n".join(["names"] * 40) + "\n"), ["-"] * 40)
        self.bad("\n".join(["names"] * 41), 40)
        self.bad("\n".join(["names"] * 45), 40)
        self.bad("\n".join(["names"] * 20 + ["more"] + ["names"] * 25), 20)

    def test_400_signs_and_401(self):
        text = "answer 0 " + "( 1 " * 63
        text = text + "1" + " )" * 63
        self.assertEqual(len(text), 388)
        self.assertEqual(told([text]), ["refused NoRun"])
        text = text.replace("( 1 ", "( 1000 ", 4)
        self.assertEqual(len(text), 400)
        self.assertEqual(told([text]), ["refused NoRun"])
        self.bad("\n" + text.replace("answer 0", "answer 10"), 1)


if __name__ == "__main__":
    unittest.main()
