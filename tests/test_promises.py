"""What holds of everything ([2]), of all that's there."""

import unittest

from handledeeds.errors import BadText, NoPlace
from handledeeds.terms import answerers_free, are_like, deeds_of, deep_of, is_term, is_value, names_free, part_at
from handledeeds.terms import parts_of, places_of, put_at
from handledeeds.termtext import term_in, text_of
from tests.samples import DEEP, ONE, TERMS, UNDER, X, frozen

# What is asked: the function, what it's handed, and by which names.
ASKED = []
for sample in TERMS:
    for function in (places_of, parts_of, deep_of, names_free, answerers_free, deeds_of, is_value, text_of):
        ASKED.append((function, (sample,), ("term",)))
    ASKED.append((is_term, (sample,), ("thing",)))
    ASKED.append((are_like, (sample, DEEP), ("term", "other")))
    ASKED.append((part_at, (sample, ()), ("term", "place")))
    ASKED.append((put_at, (sample, (), UNDER), ("term", "place", "other")))
    ASKED.append((term_in, (text_of(sample),), ("text",)))
for thing in (None, True, 7, "num", [], ["num", [1]], ("num", [1]), ("two", ONE, ["num"]), ("handle", [], (), [X], ())):
    ASKED.append((is_term, (thing,), ("thing",)))
for at in ((0,), (1, 0), (4,), (2, 9), (-1,), (0, 0, 0)):
    ASKED.append((part_at, (DEEP, at), ("term", "place")))
    ASKED.append((put_at, (DEEP, at, X), ("term", "place", "other")))
for words in ("", "7 7", "rec f f 7", "deep 7 x 7 1 many get x x 7", "first"):
    ASKED.append((term_in, (words,), ("text",)))


def asked(function, *handed, **named):
    """What is told, or with what it's refused."""
    try:
        return ("told", function(*handed, **named))
    except (BadText, NoPlace) as error:
        return (error.__class__.__name__, sorted(vars(error).items()))


class PromisesTest(unittest.TestCase):
    def test_by_place_by_name_and_again(self):
        for function, handed, names in ASKED:
            told = asked(function, *handed)
            self.assertEqual(asked(function, **dict(zip(names, handed))), told, (function, handed))
            self.assertEqual(asked(function, *handed), told, (function, handed))

    def test_asked_in_another_order(self):
        told = [asked(function, *handed) for function, handed, _ in ASKED]
        again = [asked(function, *handed) for function, handed, _ in reversed(ASKED)]
        self.assertEqual(again[::-1], told)

    def test_nothing_handed_in_is_changed(self):
        for function, handed, _ in ASKED:
            before = frozen(handed)
            asked(function, *handed)
            self.assertEqual(frozen(handed), before)

    def test_told_lists_are_the_askers_own(self):
        for function, handed, _ in ASKED:
            word, told = asked(function, *handed)
            if word == "told" and isinstance(told, list):
                again = list(told)
                told.append("more")
                told.insert(0, "more")
                self.assertEqual(function(*handed), again)
                self.assertIsNot(function(*handed), function(*handed))

    def test_a_list_that_is_changed_behind_is_not_seen(self):
        fields = ["two", ["num", 1], ("num", 1)]
        thing = (fields[0], fields[1], fields[2])
        self.assertIs(is_term(thing), False)
        fields[1].append(7)
        self.assertIs(is_term(thing), False)
        self.assertIs(is_term(tuple([fields[0], tuple(fields[1][:2]), fields[2]])), True)

    def test_so_is_told_by_true_or_false(self):
        for function in (is_term, is_value):
            for term in TERMS:
                self.assertIs(type(function(term)), bool)
        for term in TERMS:
            self.assertIs(type(are_like(term, DEEP)), bool)

    def test_kinds_of_what_is_told(self):
        for term in TERMS:
            for told in (places_of(term), names_free(term), answerers_free(term), deeds_of(term)):
                self.assertIs(type(told), list)
            self.assertIs(type(parts_of(term)), int)
            self.assertIs(type(deep_of(term)), int)
            for place in places_of(term):
                self.assertIs(type(place), tuple)
                self.assertEqual([type(step) for step in place], [int] * len(place))

    def test_a_refusal_changes_nothing(self):
        with self.assertRaises(BadText):
            term_in("deep 7 x 7 1 many get u")
        self.assertEqual(term_in("7"), ("num", 7))
        with self.assertRaises(NoPlace):
            put_at(DEEP, (9,), X)
        self.assertEqual(part_at(DEEP, ()), DEEP)
