"""termtext.py ([5])."""

import random
import unittest

from handledeeds.errors import BadText
from handledeeds.limits import KEYWORDS, OPS
from handledeeds.terms import is_term, put_at
from handledeeds.termtext import term_in, text_of
from tests.samples import ONE, TEXTS, X, ends, nested, spread
from tests.slowreader import slow_term_in

BEGINNERS = {
    "fun": "fun x", "rec": "rec f x", "call": "call", "let": "let x", "if": "if", "two": "two", "first": "first",
    "second": "second", "ask": "ask get", "askof": "askof h get", "past": "past get", "pastof": "pastof h",
    "deep": "deep", "shallow": "shallow", "under": "under h", "ward": "ward", "plus": "plus", "less": "less",
    "times": "times", "below": "below", "call 7": "call 7", "let x 7": "let x 7", "if 7 7": "if 7 7",
    "deep 7 x": "deep 7 x", "clause": "deep 7 x 7 1 end get u", "many": "shallow 7 x 7 1 many get u k",
    "quick": "under h 7 x 7 4 quick get u",
}

WORDS = [
    "", "0", "1", "4", "5", "00", "04", "996", "997", "1000", "-1", "x", "k", "f", "u", "get", "put", "stop", "a",
    "zzzzzz", "zzzzzy", "abcdefg", "X", "x1", "\u0664", "\u00b2", "x\n", "+1", "1.0", *KEYWORDS,
]


class TextOfTest(unittest.TestCase):
    def test_the_text_of_each_form_and_back(self):
        for term, text in TEXTS:
            with self.subTest(text):
                self.assertEqual(text_of(term), text)
                self.assertEqual(term_in(text), term)
                self.assertIs(type(text_of(term)), str)

    def test_forms_within_forms(self):
        for term, text in TEXTS:
            for around, words in ((("two", X, term), "two x " + text), (("fun", "y", term), "fun y " + text),
                                  (("under", "h", term, ("x", term), (("a", "many", "x", "k", term),)),
                                   f"under h {text} x {text} 1 many a x k {text}")):
                self.assertEqual(text_of(around), words)
                self.assertEqual(term_in(words), around)

    def test_what_is_read_is_a_term(self):
        for _, text in TEXTS:
            self.assertIs(is_term(term_in(text)), True)

    def test_by_name(self):
        self.assertEqual(text_of(term=ONE), "1")
        self.assertEqual(term_in(text="1"), ONE)

    def test_the_text_of_what_is_far_deeper(self):
        term = ONE
        for _ in range(60):
            term = put_at(nested(20), (0,) * 19, term)
        self.assertEqual(text_of(term), "first " * 1140 + "1")


class TermInTest(unittest.TestCase):
    def bad(self, text, at):
        with self.subTest(text=text):
            with self.assertRaises(BadText) as caught:
                term_in(text)
            self.assertEqual(caught.exception.at, at)
            self.assertIs(type(caught.exception.at), int)

    def test_empty_words(self):
        self.bad("", 0)
        self.bad(" ", 0)
        self.bad(" 7", 0)
        self.bad("7 ", 1)
        self.bad("first  7", 1)
        self.bad("two 7  7", 2)
        self.bad("two 7 7 ", 3)
        self.bad("fun  x 7", 1)
        self.bad("fun x ", 2)
        self.bad("deep 7 x 7 ", 4)

    def test_numbers(self):
        for word in ("997", "1000", "9960", "00", "01", "0996", "-1", "+1", "1.0", "1_0", "\u0661", "\u00b2", "9" * 5000):
            self.bad(word, 0)
            self.bad(f"two 996 {word}", 2)
        self.assertEqual(term_in("996"), ("num", 996))
        self.assertEqual(term_in("0"), ("num", 0))

    def test_how_many_clauses(self):
        for word in ("5", "9", "00", "04", "10", "x", "", "-1", "many", "1 1"):
            self.bad(f"deep 7 x 7 {word}", 5 if word == "1 1" else 4)
            self.bad(f"two 1 shallow 7 x 7 {word}", 7 if word == "1 1" else 6)
            self.bad(f"under h 7 x 7 {word}", 6 if word == "1 1" else 5)
        self.assertEqual(len(term_in("deep 7 x 7 4 end a x 1 end b x 1 end c x 1 end d x 1")[4]), 4)

    def test_deeds_that_dont_rise(self):
        self.bad("deep 7 x 7 2 end get u 1 end get u 1", 10)
        self.bad("deep 7 x 7 2 end get u 1 many ask u k 1", 10)
        self.bad("deep 7 x 7 2 end get u 1 many ge u k 1", 10)
        self.bad("under h 7 x 7 3 end a u 1 quick c u 1 quick b u 1", 15)
        self.assertEqual(len(term_in("deep 7 x 7 2 end get u 1 many geta u k 1")[4]), 2)

    def test_deeds_of_an_answerer_within_another(self):
        text = "deep 7 x 7 2 end b u deep 7 x 7 1 end a u 1 end c u 1"
        self.assertEqual(len(term_in(text)[4]), 2)
        self.bad("deep 7 x 7 2 end b u deep 7 x 7 1 end a u 1 end b u 1", 18)

    def test_deeds_above_which_too_few_are_left(self):
        self.bad("deep 7 x 7 2 end zzzzzz u 1 end", 6)
        self.bad("deep 7 x 7 3 end zzzzzy u 1 end zzzzzz u 1 end", 6)
        self.bad("deep 7 x 7 3 end zzzzz u 1 end zzzzzz u 1 end", 10)
        self.bad("deep 7 x 7 4 end zzzzzx", 6)
        high = ["zzzzzw", "zzzzzx", "zzzzzy", "zzzzzz"]
        for many in (1, 2, 3, 4):
            term = ("handle", "deep", ONE, ("x", X), ends(high[4 - many:]))
            self.assertEqual(term_in(text_of(term)), term)

    def test_names_alike(self):
        self.bad("rec f f 7", 2)
        self.bad("rec x x x", 2)
        self.bad("deep 7 x 7 1 many get x x 7", 8)
        self.assertEqual(term_in("rec f ff 7"), ("rec", "f", "ff", ("num", 7)))
        self.assertEqual(term_in("deep 7 x 7 1 many get get x 7")[4][0][:4], ("get", "many", "get", "x"))

    def test_quick_in_a_shallow_one(self):
        self.bad("shallow 7 x 7 1 quick get u 1", 5)
        self.bad("shallow 7 x 7 2 end get u 1 quick put u 1", 9)
        self.bad("shallow deep 7 x 7 1 quick get u 1 x 7 1 quick get u 1", 13)
        self.assertEqual(term_in("under h 7 x 7 1 quick get u 1")[4][0][1], "quick")

    def test_keywords_in_the_place_of_names(self):
        for word in [*KEYWORDS, "abcdefg", "", "X", "x1", "7", "x\n", "\u00e9"]:
            for ahead in ("fun", "rec", "rec f", "let", "ask", "askof", "askof h", "past", "pastof", "under",
                          "deep 7", "shallow 7", "under h 7", "deep 7 x 7 1 end", "deep 7 x 7 1 end get",
                          "deep 7 x 7 1 many get u"):
                self.bad(f"{ahead} {word} 7 7", len(ahead.split(" ")))
        for word in ("many", "quick", "end", "number", "pair", "abcdefg", "X", "x1", "("):
            self.bad(word, 0)

    def test_clauses_begin_by_how(self):
        for word in ("get", "once", "deep", "7", "first"):
            self.bad(f"deep 7 x 7 1 {word} get u 1", 5)
            self.bad(f"deep 7 x 7 2 end get u 1 {word} put u 1", 9)

    def test_words_behind_the_end(self):
        for term, text in TEXTS:
            for word in ("7", "x", "fun", "", "many"):
                self.bad(f"{text} {word}", len(text.split(" ")))
                self.bad(f"{text} {word} 7", len(text.split(" ")))

    def test_where_it_ends_too_early(self):
        for _, text in TEXTS:
            words = text.split(" ")
            for many in range(1, len(words)):
                self.bad(" ".join(words[:many]), many)

    def test_more_than_120_parts(self):
        self.assertEqual(term_in(text_of(spread(120))), spread(120))
        self.bad(text_of(spread(121)), 121)
        self.bad(text_of(spread(400)), 400)
        self.bad(text_of(spread(121)) + " 7", 121)
        self.bad(text_of(("two", spread(119), X)), 121)

    def test_more_than_20_deep(self):
        self.assertEqual(term_in(text_of(nested(20))), nested(20))
        self.bad(text_of(nested(21)), 21)
        self.bad(text_of(nested(21)) + " ", 21)
        self.bad("deep 7 x 7 1 end get u " + text_of(nested(20)), 28)
        self.assertEqual(term_in("deep 7 x 7 1 end get u " + text_of(nested(19)))[4][0][4], nested(19))

    def test_hundreds_deep_and_never_ending(self):
        for ahead in [*BEGINNERS.values(), *OPS]:
            for signs in (1500, 6000):
                text = " ".join([ahead] * (signs // (len(ahead) + 1)))
                self.bad(text, len(text.split(" ")))
                self.bad(f"{text} 997", len(text.split(" ")))

    def test_hundreds_deep_and_ending(self):
        self.bad("first " * 249 + "7", 250)
        self.bad("if 7 7 " * 200 + "7", 601)
        self.bad("first " * 249 + "7 7", 250)


class SlowReaderTest(unittest.TestCase):
    def same(self, text):
        try:
            told = ("term", term_in(text))
        except BadText as bad:
            told = ("bad", bad.at)
        self.assertEqual(told, slow_term_in(text), text)

    def test_each_text_with_a_word_otherwise_more_or_fewer(self):
        for _, text in TEXTS:
            words = text.split(" ")
            for at in range(len(words) + 1):
                for word in WORDS:
                    self.same(" ".join([*words[:at], word, *words[at:]]))
                    self.same(" ".join([*words[:at], word, *words[at + 1:]]))
                self.same(" ".join([*words[:at], *words[at + 1:]]))

    def test_words_by_chance(self):
        # By a seed of its own: the same words each time.
        chance = random.Random(5)
        words = [*BEGINNERS.values(), *WORDS[1:20], "7", "x", "7", "x", "end a x 1", "many b x k 1", "0", "2"]
        for _ in range(20000):
            self.same(" ".join([chance.choice(words) for _ in range(chance.randrange(1, 14))]))
