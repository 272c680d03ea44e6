"""kindtext.py ([7])."""

import random
import unittest

from handledeeds.errors import BadText
from handledeeds.kinds import is_kind, put_in
from handledeeds.kindtext import kind_in, kind_text, roster_text
from tests.test_kinds import KINDS, LABELS, NO_LABELS, deep, wide

N = "number"

TEXTS = [
    (N, "number"), (("any", 0), "a0"), (("any", 999), "a999"), (("pair", N, N), "pair number number"),
    (("pair", ("pair", N, ("any", 1)), N), "pair pair number a1 number"), (("fun", N, ((), None), N), "fun number [ ] number"),
    (("fun", ("any", 0), ((), 0), ("any", 1)), "fun a0 [ r0 ] a1"),
    (("fun", N, (("get", "get", "put"), None), N), "fun number [ get get put ] number"),
    (("fun", N, (("0.2:get", ":get", "get"), 12), N), "fun number [ 0.2:get :get get r12 ] number"),
    (("fun", ("fun", N, ((), 1), N), ((), 0), ("fun", N, ((), None), N)), "fun fun number [ r1 ] number [ r0 ] fun number [ ] number"),
    # LABELs that are called like opens and their words.
    (("fun", N, (("a", "any", "r"), 0), N), "fun number [ a any r r0 ] number"),
]

WORDS = ["", "number", "pair", "fun", "a0", "a1", "a999", "[", "]", "r0", "r1", "r999", "get", "put", "0:get", "a", "r", "any", "7",
         "a1000", "a00", "r01", "Number", "[]", "a-1", "x1", "\u0664", "a\u0664", "abcdefg", "number\n"]


OPENS = {sign: [f"{sign}{n}" for n in range(1000)] for sign in "ar"}


class KindTextTest(unittest.TestCase):
    def test_each_form_and_back(self):
        for kind, text in TEXTS:
            with self.subTest(text):
                self.assertEqual(kind_text(kind), text)
                self.assertEqual(kind_in(text), kind)
                self.assertEqual(kind_text(kind=kind), text)
                self.assertEqual(kind_in(text=text), kind)

    def test_what_is_told_is_read_again(self):
        for kind in KINDS:
            if kind != ("any", 5000):
                self.assertEqual(kind_in(kind_text(kind)), kind)

    def test_rosters(self):
        for roster, text in ((((), None), "[ ]"), (((), 0), "[ r0 ]"), ((("get", "put"), None), "[ get put ]"),
                             (((":get", "get", "get"), 31), "[ :get get get r31 ]")):
            self.assertEqual(roster_text(roster), text)
            self.assertEqual(roster_text(roster=roster), text)

    def test_what_is_far_larger_is_told(self):
        kind = ("any", 12345)
        for _ in range(1500):
            kind = put_in(("fun", ("any", 0), ((), 1234), N), {0: kind}, {})
        self.assertEqual(kind_text(kind), "fun " * 1500 + "a12345" + " [ r1234 ] number" * 1500)


class KindInTest(unittest.TestCase):
    def bad(self, text, at):
        with self.assertRaises(BadText, msg=text) as caught:
            kind_in(text)
        self.assertEqual(caught.exception.at, at, text)

    def test_an_empty_text_and_blanks(self):
        self.bad("", 0)
        self.bad(" ", 0)
        self.bad(" number", 0)
        self.bad("number ", 1)
        self.bad("pair  number number", 1)
        self.bad("pair number  number", 2)
        self.bad("fun number [  ] number", 3)
        self.bad("fun number [ get  ] number", 4)
        self.bad("fun number [ ]  number", 4)
        self.bad("fun number  [ ] number", 2)
        self.bad("number\n", 0)
        self.bad("pair number\nnumber", 1)

    def test_words_behind_the_end(self):
        for _, text in TEXTS:
            for word in ("number", "", "]", "pair", "x"):
                self.bad(f"{text} {word}", len(text.split(" ")))
                self.bad(f"{text} {word} number", len(text.split(" ")))

    def test_where_it_ends_too_early(self):
        for _, text in TEXTS:
            words = text.split(" ")
            for many in range(1, len(words)):
                self.bad(" ".join(words[:many]), many)

    def test_words_that_are_no_kinds(self):
        for word in ("get", "[", "]", "r0", "7", "any", "Pair", "a", "ask", "a0x", "-", "pairs"):
            self.bad(word, 0)
            self.bad(f"pair {word} number", 1)
            self.bad(f"pair number {word}", 2)
            self.bad(f"fun {word} [ ] number", 1)
            self.bad(f"fun number [ ] {word}", 4)

    def test_numbers_of_open_kinds(self):
        for word in ("a1000", "a00", "a01", "a007", "a-1", "a+1", "a1.", "a 1", "A1", "a\u0664", "a" + "9" * 500):
            self.bad(word, 0)
            self.bad(f"pair number {word}", 2)
        for n in (0, 1, 10, 100, 999):
            self.assertEqual(kind_in(f"a{n}"), ("any", n))

    def test_numbers_of_open_tails(self):
        for word in ("r1000", "r00", "r01", "r-1", "r\u0664", "R0", "0", "a0"):
            self.bad(f"fun number [ {word} ] number", 3)
            self.bad(f"fun number [ get {word} ] number", 4)
        for n in (0, 1, 10, 100, 999):
            self.assertEqual(kind_in(f"fun number [ r{n} ] number")[2], ((), n))

    def test_labels(self):
        for label in LABELS:
            self.assertEqual(kind_in(f"fun number [ {label} ] number"), ("fun", N, ((label,), None), N))
        for label in NO_LABELS:
            if isinstance(label, str) and " " not in label:
                self.bad(f"fun number [ {label} ] number", 3)
                self.bad(f"fun number [ 0:a {label} ] number", 4)

    def test_labels_that_fall(self):
        self.bad("fun number [ put get ] number", 4)
        self.bad("fun number [ get put get ] number", 5)
        self.bad("fun number [ get :get ] number", 4)
        self.bad("fun number [ 0:get 0.2:get r0 ] number", 4)
        self.bad("fun number [ b b a ] number", 5)
        # Of each roster by itself.
        kind_in("pair fun number [ put ] number fun number [ get ] number")

    def test_a_roster_that_is_opened_or_closed_wrongly(self):
        self.bad("fun number ] number", 2)
        self.bad("fun number number number", 2)
        self.bad("fun number get ] number", 2)
        self.bad("fun number r0 number", 2)
        self.bad("fun number [ [ ] number", 3)
        self.bad("fun number [ ] ] number", 4)
        self.bad("fun number [ get number", 4)
        self.bad("fun number [ r0 get ] number", 4)
        self.bad("fun number [ r0 r0 ] number", 4)
        self.bad("fun number [ r0 r1 ] number", 4)
        self.bad("fun number [ r0 number", 4)
        self.bad("fun number [ pair ] number", 3)
        self.bad("fun number [ ]", 4)
        self.bad("fun number [ get", 4)
        self.bad("fun number [ r0", 4)
        self.bad("[ ]", 0)

    def test_more_than_40_parts(self):
        self.assertEqual(kind_in(kind_text(wide(39))), wide(39))
        # A kind has always an odd number of parts.
        most = ("fun", wide(19), ((), None), ("pair", N, wide(17)))
        self.assertEqual(kind_in(kind_text(most)), most)
        self.bad(kind_text(wide(41)), 41)
        self.bad(kind_text(("pair", most, N)), 43)
        self.bad(kind_text(wide(81)), 81)
        self.bad(kind_text(wide(41)) + " number", 41)

    def test_more_than_8_deep(self):
        self.assertEqual(kind_in(kind_text(deep(8))), deep(8))
        self.bad(kind_text(deep(9)), 17)
        self.bad(kind_text(("fun", N, ((), None), deep(8))), 19)
        self.bad("pair " * 110, 110)
        self.bad("pair " * 60 + "x", 60)
        self.bad(kind_text(deep(9))[:-6] + "x", 16)

    def test_more_than_8_labels(self):
        eight = " ".join(["get"] * 8)
        self.assertEqual(kind_in(f"fun number [ {eight} r0 ] number")[2], (("get",) * 8, 0))
        self.bad(f"fun number [ {eight} get ] number", 14)
        self.bad(f"fun number [ {eight} get r0 ] number", 15)
        self.bad(f"fun number [ {eight} get a ] number", 12)

    def test_words_by_chance(self):
        chance = random.Random(7)
        texts = [text.split(" ") for _, text in TEXTS]
        for _ in range(20000):
            words = list(chance.choice(texts))
            for _ in range(chance.randrange(1, 3)):
                at = chance.randrange(len(words) + 1)
                words[at:at + chance.randrange(2)] = [chance.choice(WORDS)] * chance.randrange(2)
            self.assertEqual(told(" ".join(words)), slow_kind_in(words), words)


def told(text):
    try:
        return kind_in(text)
    except BadText as bad:
        return bad.at


class Bad(Exception):
    pass


def slow_kind_in(words):
    """Another way to read: by calls within calls; the number of the word where it's refused."""
    at = 0

    def word(lets):
        nonlocal at
        if at == len(words) or not lets(words[at]):
            raise Bad
        at += 1
        return words[at - 1]

    def number(sign):
        return OPENS[sign]

    def label(text, last):
        return text in ("get", "put", "0:get", "a", "r", "any", ":get", "0.2:get") and text >= last

    def kind():
        first = word(lambda text: text in ["number", "pair", "fun"] or text in number("a"))
        if first == "number":
            return N
        if first == "pair":
            return ("pair", kind(), kind())
        if first == "fun":
            return ("fun", kind(), roster(), kind())
        return ("any", int(first[1:]))

    def roster():
        word(lambda text: text == "[")
        labels, tail = [], None
        while True:
            last = labels[-1] if labels else ""
            one = word(lambda text: text == "]" or tail is None and (text in number("r") or label(text, last)))
            if one == "]":
                return (tuple(labels), tail)
            if one in number("r"):
                tail = int(one[1:])
            else:
                labels.append(one)

    try:
        made = kind()
        if at < len(words):
            return at
        return made if is_kind(made) else at
    except Bad:
        return at


if __name__ == "__main__":
    unittest.main()
