"""limits.py, and what is a NAME ([3])."""

import unittest

from handledeeds.limits import KEYWORDS
from handledeeds.limits import MOST
from handledeeds.limits import OPS
from handledeeds.limits import STEPS
from handledeeds.terms import is_term

WORDS = (
    "fun rec call let plus less times below if two first second ask askof past pastof deep "
    "shallow under many quick end ward number pair"
)

NAMES = ["a", "z", "abcdef", "zzzzzz", "num", "name", "op", "handle", "to", "funs"]

OTHERS = ["", "abcdefg", "A", "aB", "a1", "a_b", "a b", " a", "a ", "a\n", "-", "7", "\u00e9", "\u00df", "a\u0301"]

NO_TEXTS = [None, True, False, 7, ("a",), ["a"], (), []]


class LimitsTest(unittest.TestCase):
    def test_keywords_in_their_order(self):
        self.assertEqual(KEYWORDS, tuple(WORDS.split(" ")))
        self.assertIs(type(KEYWORDS), tuple)

    def test_ops(self):
        self.assertEqual(OPS, ("plus", "less", "times", "below"))
        self.assertIs(type(OPS), tuple)

    def test_numbers(self):
        self.assertEqual((MOST, STEPS), (100, 1000))
        self.assertIs(type(MOST), int)
        self.assertIs(type(STEPS), int)

    def test_names(self):
        for name in NAMES:
            self.assertIs(is_term(("name", name)), True, name)

    def test_what_is_no_name(self):
        for name in [*KEYWORDS, *OTHERS, *NO_TEXTS]:
            self.assertIs(is_term(("name", name)), False, name)
