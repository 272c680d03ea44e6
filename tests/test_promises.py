"""What holds of everything ([2]), of all that's there."""

import unittest

from handledeeds.desk import answers
from handledeeds.errors import BadRow, BadText, Clash, NoAnswerer, NoName, NoPlace
from handledeeds.joint import is_of, joined_of, record_of, shows_joined, shows_record, told_in
from handledeeds.kindcheck import label_of, shows_kinds
from handledeeds.kindpapers import paper_of
from handledeeds.kinds import comes_of, is_kind, is_roster, is_sheet, opens_of, put_in, put_in_roster, settled
from handledeeds.kindtext import kind_in, kind_text, roster_text
from handledeeds.look import kind_of, look
from handledeeds.machine import told_by
from handledeeds.made import logged, stored, summed, tried
from handledeeds.quick import quick_ones, quickened, slowed
from handledeeds.rowcheck import are_rows, are_rows_of, term_of
from handledeeds.rows import rows_of
from handledeeds.terms import answerers_free, are_like, deeds_of, deep_of, is_term, is_value, names_free, part_at
from handledeeds.terms import parts_of, places_of, put_at
from handledeeds.termtext import term_in, text_of
from handledeeds.treerun import told_of
from handledeeds.weaving import is_weaving, picks_of, turns_of, weave, woven
from tests.chance import SHEET
from tests.samples import DEEP, ONE, TERMS, UNDER, X, frozen

# What is asked: the function, what it's handed, and by which names.
ASKED = []
for sample in TERMS:
    for function in (places_of, parts_of, deep_of, names_free, answerers_free, deeds_of, is_value, text_of):
        ASKED.append((function, (sample,), ("term",)))
    ASKED.append((is_term, (sample,), ("thing",)))
    ASKED.append((are_like, (sample, DEEP), ("term", "other")))
    ASKED.append((part_at, (sample, ()), ("term", "place")))
    ASKED.append((put_at, (sample, (), UNDER), ("term", "place", "other")))
    ASKED.append((term_in, (text_of(sample),), ("text",)))
for thing in (None, True, 7, "num", [], ["num", [1]], ("num", [1]), ("two", ONE, ["num"]), ("handle", [], (), [X], ())):
    ASKED.append((is_term, (thing,), ("thing",)))
for at in ((0,), (1, 0), (4,), (2, 9), (-1,), (0, 0, 0)):
    ASKED.append((part_at, (DEEP, at), ("term", "place")))
    ASKED.append((put_at, (DEEP, at, X), ("term", "place", "other")))
for words in ("", "7 7", "rec f f 7", "deep 7 x 7 1 many get x x 7", "first"):
    ASKED.append((term_in, (words,), ("text",)))
for kind in ("number", ("any", 3), ("pair", ("any", 1), ("any", 0)), ("fun", ("any", 2), (("get",), 4), ("fun", "number", ((), 4), ("any", 2)))):
    for function in (opens_of, kind_text):
        ASKED.append((function, (kind,), ("kind",)))
    ASKED.append((is_kind, (kind,), ("thing",)))
    ASKED.append((is_sheet, ((("get", kind, kind),),), ("thing",)))
    ASKED.append((put_in, (kind, {2: ("pair", ("any", 2), "number")}, {4: (("a", "z"), 4)}), ("kind", "kinds", "tails")))
    ASKED.append((settled, (kind, (("get",), 4)), ("kind", "roster")))
    ASKED.append((comes_of, ((kind, ((), 4)), (kind, (("get",), None))), ("first", "second")))
    ASKED.append((kind_in, (kind_text(kind),), ("text",)))
for roster in (((), None), ((), 0), ((":get", "get", "get"), 4)):
    ASKED.append((is_roster, (roster,), ("thing",)))
    ASKED.append((roster_text, (roster,), ("roster",)))
    ASKED.append((put_in_roster, (roster, {4: "number"}, {4: (("a", "z"), 4)}), ("roster", "kinds", "tails")))
for thing in (None, True, [], ["pair", "number", "number"], ("pair", ["any", 0], "number"), ([], 0), [("get", "number", "number")]):
    for function in (is_kind, is_roster, is_sheet):
        ASKED.append((function, (thing,), ("thing",)))
for words in ("", "number number", "fun number [ put get ] number"):
    ASKED.append((kind_in, (words,), ("text",)))
for sample in [*TERMS, term_in("let i fun x x two call i ask get 1 i"), term_in("under h fun x askof h get x y y 1 quick get u u")]:
    for function in (look, kind_of, paper_of):
        ASKED.append((function, (sample, SHEET), ("term", "sheet")))
    ASKED.append((shows_kinds, (sample, SHEET, [((), "number", ((), 0))]), ("term", "sheet", "thing")))
    for function in (rows_of, told_of):
        ASKED.append((function, (sample,), ("term",)))
ASKED.append((label_of, ((0, 2), "get"), ("place", "deed")))
for sample in [*TERMS, term_in("ask get 1")]:
    for function in (slowed, quickened, quick_ones, logged):
        ASKED.append((function, (sample,), ("body",) if function is logged else ("term",)))
    ASKED.append((stored, (sample, ONE), ("body", "first")))
    ASKED.append((summed, (sample, 3), ("body", "many")))
    ASKED.append((tried, (sample, sample), ("body", "other")))
    ASKED.append((joined_of, (sample, SHEET), ("term", "sheet")))
    if names_free(sample) or answerers_free(sample):
        continue
    ROWS = rows_of(sample)
    for function in (term_of, are_rows):
        ASKED.append((function, (ROWS,), ("thing",)))
    ASKED.append((are_rows_of, (sample, ROWS), ("term", "thing")))
    for function in (told_by, record_of):
        ASKED.append((function, (ROWS,), ("rows",)))
    ASKED.append((shows_record, (ROWS, record_of(ROWS)), ("rows", "thing")))
    ASKED.append((turns_of, (("fun", "x", sample),), ("task",)))
    ASKED.append((woven, ((("fun", "x", sample),) * 3,), ("tasks",)))
JOINED = joined_of(term_in("plus 1 2"), SHEET)
ASKED.append((shows_joined, (term_in("plus 1 2"), SHEET, JOINED), ("term", "sheet", "thing")))
ASKED.append((told_in, (JOINED,), ("thing",)))
TURNS = [[[1], [2, (3, "fun")]], [[], [4]]]
for picks in ([], [0, 1, 0, 0], [5, 6, 7, 8, 9]):
    ASKED.append((weave, (TURNS, picks), ("turns", "picks")))
for thing in (None, [1, 4, 2, (3, "fun")], [4, 1, 2, [3, "fun"]], (1,), [True]):
    ASKED.append((picks_of, (TURNS, thing), ("turns", "thing")))
    ASKED.append((is_weaving, ([[1, 2, (3, "fun")], [4]], thing), ("rows", "thing")))
    for function in (term_of, are_rows):
        ASKED.append((function, (thing,), ("thing",)))
    ASKED.append((shows_joined, (ONE, SHEET, thing), ("term", "sheet", "thing")))
ASKED.append((is_of, ((1, "fun"), ("pair", "number", ("any", 0))), ("told", "kind")))
for text in ("", "names\nundo", "names\n\nmore", "deed get number number\nstart ask get 1\ngo 0\ntrace 0\nanswer 0 997\ndrop f"):
    ASKED.append((answers, (text,), ("text",)))


def asked(function, *handed, **named):
    """What is told, or with what it's refused."""
    try:
        return ("told", function(*handed, **named))
    except (BadRow, BadText, Clash, NoAnswerer, NoName, NoPlace) as error:
        return (error.__class__.__name__, sorted(vars(error).items()))


class PromisesTest(unittest.TestCase):
    def test_by_place_by_name_and_again(self):
        for function, handed, names in ASKED:
            told = asked(function, *handed)
            self.assertEqual(asked(function, **dict(zip(names, handed))), told, (function, handed))
            self.assertEqual(asked(function, *handed), told, (function, handed))

    def test_asked_in_another_order(self):
        told = [asked(function, *handed) for function, handed, _ in ASKED]
        again = [asked(function, *handed) for function, handed, _ in reversed(ASKED)]
        self.assertEqual(again[::-1], told)

    def test_nothing_handed_in_is_changed(self):
        for function, handed, _ in ASKED:
            before = frozen(handed)
            asked(function, *handed)
            self.assertEqual(frozen(handed), before)

    def test_told_lists_are_the_askers_own(self):
        for function, handed, _ in ASKED:
            word, told = asked(function, *handed)
            if word == "told" and isinstance(told, list):
                again = list(told)
                told.append("more")
                told.insert(0, "more")
                self.assertEqual(function(*handed), again)
                self.assertIsNot(function(*handed), function(*handed))

    def test_told_lists_and_dicts_within_what_is_told_too(self):
        for function, handed, _ in ASKED:
            word, told = asked(function, *handed)
            if word == "told" and isinstance(told, tuple):
                before = frozen(told)
                for thing in told:
                    if isinstance(thing, (list, dict)):
                        thing.clear()
                self.assertEqual(frozen(function(*handed)), before, (function, handed))

    def test_a_list_that_is_changed_behind_is_not_seen(self):
        fields = ["two", ["num", 1], ("num", 1)]
        thing = (fields[0], fields[1], fields[2])
        self.assertIs(is_term(thing), False)
        fields[1].append(7)
        self.assertIs(is_term(thing), False)
        self.assertIs(is_term(tuple([fields[0], tuple(fields[1][:2]), fields[2]])), True)

    def test_so_is_told_by_true_or_false(self):
        for function in (is_term, is_value, is_kind, is_roster, is_sheet):
            for term in TERMS:
                self.assertIs(type(function(term)), bool)
        for term in TERMS:
            self.assertIs(type(shows_kinds(term, SHEET, [])), bool)
            self.assertIs(type(are_rows(term)), bool)
            self.assertIs(type(are_rows_of(term, [])), bool)
            self.assertIs(type(is_weaving([[1]], term)), bool)
            self.assertIs(type(shows_record([("num", 1), ("end",)], term)), bool)
            self.assertIs(type(shows_joined(term, SHEET, term)), bool)
        for term in TERMS:
            self.assertIs(type(are_like(term, DEEP)), bool)

    def test_kinds_of_what_is_told(self):
        for term in TERMS:
            for told in (places_of(term), names_free(term), answerers_free(term), deeds_of(term)):
                self.assertIs(type(told), list)
            self.assertIs(type(parts_of(term)), int)
            self.assertIs(type(deep_of(term)), int)
            for place in places_of(term):
                self.assertIs(type(place), tuple)
                self.assertEqual([type(step) for step in place], [int] * len(place))

    def test_a_refusal_changes_nothing(self):
        with self.assertRaises(BadText):
            term_in("deep 7 x 7 1 many get u")
        self.assertEqual(term_in("7"), ("num", 7))
        with self.assertRaises(NoPlace):
            put_at(DEEP, (9,), X)
        self.assertEqual(part_at(DEEP, ()), DEEP)
