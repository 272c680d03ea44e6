"""kindpapers.py, kindcheck.py ([11])."""

import random
import unittest

from handledeeds.errors import Clash
from handledeeds.kindcheck import label_of, shows_kinds
from handledeeds.kindheads import heads_of, opens_in
from handledeeds.kindpapers import paper_of
from handledeeds.kinds import comes_of, put_in, put_in_roster
from handledeeds.kindtext import kind_in, kind_text, roster_text
from handledeeds.look import look
from handledeeds.terms import places_of
from handledeeds.termtext import term_in
from tests.chance import SHEET
from tests.samples import frozen
from tests.slowcheck import slow_shows
from tests.test_chance_looks import programs
from tests.test_kinds import anything
from tests.test_look import LETS, TOLD

N = "number"

# A text, and its paper: of each PLACE the texts of its KIND and its ROSTER.
PAPERS = [
    ("7", [((), "number", "[ r0 ]")]),
    ("fun x x", [((), "fun a0 [ r0 ] a0", "[ r1 ]"), ((0,), "a0", "[ r0 ]")]),
    ("call fun x x 7", [((), "number", "[ r0 ]"), ((0,), "fun number [ r0 ] number", "[ r0 ]"), ((0, 0), "number", "[ r0 ]"),
                        ((1,), "number", "[ r0 ]")]),
    ("first two 1 fun x x", [((), "number", "[ r0 ]"), ((0,), "pair number fun a0 [ r1 ] a0", "[ r0 ]"), ((0, 0), "number", "[ r0 ]"),
                             ((0, 1), "fun a0 [ r1 ] a0", "[ r0 ]"), ((0, 1, 0), "a0", "[ r1 ]")]),
    # What's open in T of a let stays open there, whatever it is at each x.
    ("let i fun x x call i 1", [
        ((), "number", "[ r0 ]"), ((0,), "fun a0 [ r1 ] a0", "[ r0 ]"), ((0, 0), "a0", "[ r1 ]"), ((1,), "number", "[ r0 ]"),
        ((1, 0), "fun number [ r0 ] number", "[ r0 ]"), ((1, 1), "number", "[ r0 ]")]),
    ("let i fun x x two i i", [
        ((), "pair fun a0 [ r0 ] a0 fun a1 [ r1 ] a1", "[ r2 ]"), ((0,), "fun a2 [ r3 ] a2", "[ r2 ]"), ((0, 0), "a2", "[ r3 ]"),
        ((1,), "pair fun a0 [ r0 ] a0 fun a1 [ r1 ] a1", "[ r2 ]"), ((1, 0), "fun a0 [ r0 ] a0", "[ r2 ]"),
        ((1, 1), "fun a1 [ r1 ] a1", "[ r2 ]")]),
    ("past get ask get 1", [((), "number", "[ get get r0 ]"), ((0,), "number", "[ get r0 ]"), ((0, 0), "number", "[ get r0 ]")]),
    ("ward ask get 1 2", [((), "number", "[ get r0 ]"), ((0,), "number", "[ get r0 ]"), ((0, 0), "number", "[ get r0 ]"),
                          ((1,), "number", "[ ]")]),
    ("deep ask get 1 x two x x 1 many get u k call k u", [
        ((), "pair number number", "[ r0 ]"), ((0,), "number", "[ get r0 ]"), ((0, 0), "number", "[ get r0 ]"),
        ((1,), "pair number number", "[ r0 ]"), ((1, 0), "number", "[ r0 ]"), ((1, 1), "number", "[ r0 ]"),
        ((2,), "pair number number", "[ r0 ]"), ((2, 0), "fun number [ r0 ] pair number number", "[ r0 ]"), ((2, 1), "number", "[ r0 ]")]),
    ("two 1 under h plus ask get 1 askof h get 2 x x 1 end get u u", [
        ((), "pair number number", "[ get r0 ]"), ((0,), "number", "[ get r0 ]"), ((1,), "number", "[ get r0 ]"),
        ((1, 0), "number", "[ 1:get get r0 ]"), ((1, 0, 0), "number", "[ 1:get get r0 ]"), ((1, 0, 0, 0), "number", "[ 1:get get r0 ]"),
        ((1, 0, 1), "number", "[ 1:get get r0 ]"), ((1, 0, 1, 0), "number", "[ 1:get get r0 ]"),
        ((1, 1), "number", "[ get r0 ]"), ((1, 2), "number", "[ get r0 ]")]),
    ("under h fun x pastof h x y 1 1 end get u u", [
        ((), "number", "[ r0 ]"), ((0,), "fun a0 [ :get r1 ] a0", "[ :get r0 ]"), ((0, 0), "a0", "[ :get r1 ]"), ((0, 0, 0), "a0", "[ r1 ]"),
        ((1,), "number", "[ r0 ]"), ((2,), "number", "[ r0 ]")]),
]


def read(rows):
    """The paper of which these are the texts."""
    return [(place, kind_in(kind), kind_in(f"fun number {roster} number")[2]) for place, kind, roster in rows]


def texts(paper):
    return [(place, kind_text(kind), roster_text(roster)) for place, kind, roster in paper]


def all_along(paper, kinds, tails):
    """The paper with these put in throughout."""
    return [(place, put_in(kind, kinds, tails), put_in_roster(roster, kinds, tails)) for place, kind, roster in paper]


def opens(paper):
    heads = []
    for _, kind, roster in paper:
        heads.extend([*heads_of(kind), roster])
    return opens_in(heads)


def with_triple(paper, at, *triples):
    return [*paper[:at], *triples, *paper[at + 1:]]


KINDLY = [term_in(text) for text, kind, _ in [*TOLD, *LETS] if kind is not None]


class PaperTest(unittest.TestCase):
    def test_known_by_hand(self):
        for text, rows in PAPERS:
            with self.subTest(text):
                self.assertEqual(texts(paper_of(term_in(text), SHEET)), rows)
                self.assertEqual(read(rows), paper_of(term_in(text), SHEET))

    def test_a_triple_for_each_place_settled_throughout(self):
        for term in KINDLY:
            paper = paper_of(term, SHEET)
            self.assertIs(type(paper), list)
            self.assertEqual([place for place, _, _ in paper], places_of(term))
            self.assertEqual(paper[0][1:], look(term, SHEET))
            kinds, tails = opens(paper)
            self.assertEqual((kinds, tails), (list(range(len(kinds))), list(range(len(tails)))))
            self.assertTrue(all(type(triple) is tuple for triple in paper))

    def test_clash_as_look_has_it(self):
        for text, kind, clash in [*TOLD, *LETS]:
            if kind is None:
                with self.assertRaises(Clash) as caught:
                    paper_of(term_in(text), SHEET)
                self.assertEqual((caught.exception.place, caught.exception.why), clash)

    def test_known_names(self):
        term = term_in("two call i 1 call i two 1 2")
        known = (("i", kind_in("fun a7 [ r7 ] a7")),)
        with self.assertRaises(Clash):
            paper_of(term, SHEET)
        paper = paper_of(term=term, sheet=SHEET, known=known)
        self.assertEqual(texts(paper)[2], ((0, 0), "fun number [ r0 ] number", "[ r0 ]"))
        self.assertIs(shows_kinds(term=term, sheet=SHEET, thing=paper, known=known), True)
        self.assertIs(shows_kinds(term, SHEET, paper), False)
        self.assertIs(shows_kinds(term, SHEET, paper, known=(("i", kind_in("fun number [ r0 ] number")),)), False)
        with self.assertRaises(TypeError):
            paper_of(term, SHEET, known)
        with self.assertRaises(TypeError):
            shows_kinds(term, SHEET, paper, known)

    def test_told_lists_are_the_askers_own(self):
        term = term_in("let i fun x x two i i")
        told = paper_of(term, SHEET)
        again = list(told)
        told.reverse()
        told.append(None)
        self.assertEqual(paper_of(term, SHEET), again)
        self.assertIsNot(paper_of(term, SHEET), paper_of(term, SHEET))

    def test_programs_by_chance(self):
        # Whatever is a paper, too, comes of this one at the whole's PLACE.
        for at, (term, known) in enumerate(programs(5000, 6000)):
            try:
                paper = paper_of(term, SHEET, known=known)
            except Clash:
                self.assertIs(shows_kinds(term, SHEET, [((), N, ((), 0))] * len(places_of(term)), known=known), False)
                continue
            self.assertIs(shows_kinds(term, SHEET, paper, known=known), True)
            chance = random.Random(at)
            for _ in range(4):
                other = otherwise(chance, paper)
                told = shows_kinds(term, SHEET, other, known=known)
                self.assertIs(told, slow_shows(term, SHEET, other, known), (term, other))
                if told:
                    self.assertIsNotNone(comes_of(paper[0][1:], other[0][1:]))


SMALL = [N, ("any", 0), ("any", 1), ("any", 7), ("pair", N, N), ("fun", N, ((), 0), N), ("fun", ("any", 0), (("get",), None), ("any", 1))]

ROSTERS = [((), None), ((), 0), ((), 1), (("get",), 0), (("0:get",), 1), ((":put", "stop"), None)]


def otherwise(chance, paper):
    """The paper with something in it otherwise, by chance; it may be one yet."""
    kinds, tails = opens(paper)
    put_kinds = {chance.choice(kinds): chance.choice(SMALL)} if kinds else {}
    put_tails = {chance.choice(tails): chance.choice(ROSTERS)} if tails else {}
    pick = chance.randrange(5)
    if pick == 0:
        return all_along(paper, put_kinds, put_tails)
    if pick == 1:
        return all_along(paper, {n: ("any", chance.randrange(9)) for n in kinds}, {n: ((), chance.randrange(9)) for n in tails})
    at = chance.randrange(len(paper))
    place, kind, roster = paper[at]
    if pick == 2:
        return with_triple(paper, at, (place, chance.choice(SMALL), roster))
    if pick == 3:
        return with_triple(paper, at, (place, kind, chance.choice(ROSTERS)))
    within = [triple for triple in paper if triple[0][:len(place)] == place]
    return paper[:at] + all_along(within, put_kinds, put_tails) + paper[at + len(within):]


class ShowsTest(unittest.TestCase):
    def shows(self, text, paper, told, known=()):
        self.assertIs(shows_kinds(term_in(text), SHEET, paper, known=known), told, (text, paper))

    def test_papers_told(self):
        for term in KINDLY:
            paper = paper_of(term, SHEET)
            before = frozen((term, paper))
            self.assertIs(shows_kinds(term, SHEET, paper), True)
            self.assertEqual(frozen((term, paper)), before)
            self.assertIs(shows_kinds(term=term, sheet=SHEET, thing=paper), True)

    def test_programs_without_kinds_have_none(self):
        for text, kind, _ in [*TOLD, *LETS]:
            if kind is None:
                term = term_in(text)
                for kind in (N, ("any", 0), ("pair", N, N)):
                    for roster in (((), None), ((), 0), (("get",), 0)):
                        self.shows(text, [(place, kind, roster) for place in places_of(term)], False)
        for text in ("x", "ask no 1", "past no 1", "askof h get 1", "pastof h 1", "deep 1 x x 1 end no u u"):
            paper = [(place, N, (("no",), None)) for place in places_of(term_in(text))]
            self.shows(text, paper, False)

    def test_opens_called_otherwise_throughout(self):
        for term in KINDLY:
            paper = paper_of(term, SHEET)
            kinds, tails = opens(paper)
            many = len(kinds) + len(tails)
            for shift in (1, 10 ** 6):
                other = all_along(paper, {n: ("any", (n + shift) % many if shift == 1 else n + shift) for n in kinds},
                                  {n: ((), many - n if shift == 1 else n + shift) for n in tails})
                if shift != 1 or len(set(opens(other)[0])) == len(kinds):
                    self.assertIs(shows_kinds(term, SHEET, other), True, term)

    def test_all_tails_closed_and_all_kinds_put_in(self):
        for text, paper in PAPERS:
            made = paper_of(term_in(text), SHEET)
            kinds, tails = opens(made)
            if text != "let i fun x x call i 1":
                self.shows(text, all_along(made, {n: ("pair", N, N) for n in kinds}, {n: ((), None) for n in tails}), True)
                self.shows(text, all_along(made, {}, {n: (("stop", "z"), n) for n in tails}), True)

    def test_something_put_in_all_along(self):
        paper = paper_of(term_in("fun x fun y x"), SHEET)
        for kind in (N, ("any", 1), ("any", 9), kind_in("fun a0 [ get r0 ] pair number a1")):
            for n in (0, 1):
                self.shows("fun x fun y x", all_along(paper, {n: kind}, {}), True)
        for roster in (((), None), (("get",), 0), (("get", "get"), None), ((":no",), 5), ((), 1)):
            for n in (0, 1, 2):
                self.shows("fun x fun y x", all_along(paper, {}, {n: roster}), True)

    def test_put_in_at_a_let_and_not_at_its_uses(self):
        text = "let i fun x x two call i 1 call i two 1 2"
        paper = paper_of(term_in(text), SHEET)
        self.shows(text, paper, True)
        free = opens(paper[1:3])[0][0]
        self.shows(text, all_along(paper, {free: ("any", 9)}, {}), True)
        self.shows(text, all_along(paper, {free: N}, {}), False)
        text = "let i fun x x two call i 1 call i 2"
        paper = paper_of(term_in(text), SHEET)
        self.shows(text, all_along(paper, {opens(paper[1:3])[0][0]: N}, {}), True)
        self.shows(text, all_along(paper, {opens(paper[1:3])[0][0]: ("pair", N, N)}, {}), False)

    def test_a_name_of_a_let_that_stands_open_around(self):
        # Called as what's open in y, what's open in i may be nothing else.
        text = "fun y let i fun x x two call i 1 call i y"
        paper = paper_of(term_in(text), SHEET)
        self.shows(text, paper, True)
        held = opens(paper[:1])[0][0]
        free = [n for n in opens(paper)[0] if n != held][0]
        self.shows(text, all_along(paper, {free: ("any", held)}, {}), False)
        text = "fun y let i fun x x call i y"
        paper = paper_of(term_in(text), SHEET)
        held = opens(paper[:1])[0][0]
        free = [n for n in opens(paper)[0] if n != held][0]
        self.shows(text, all_along(paper, {free: ("any", held)}, {}), True)

    def test_what_may_be_something_else_around_may_be_called_alike(self):
        # What's open in i, around the let of j, is called as what's open in j.
        text = "let i fun x x let j fun x x two call j 1 call j two 1 2"
        paper = paper_of(term_in(text), SHEET)
        whole = paper[0][2][1]
        (first, *_), (second, *_) = opens(paper[1:2])[0], opens(paper[4:5])[0]
        (tail, *_), (other, *_) = [[n for n in opens(paper[at:at + 1])[1] if n != whole] for at in (1, 4)]
        self.assertNotEqual((first, tail), (second, other))
        for kind in (first, 77):
            for told in (tail, 77):
                self.shows(text, all_along(paper, {first: ("any", kind), second: ("any", kind)}, {tail: ((), told), other: ((), told)}), True)

    def test_a_tail_of_a_let_that_stands_open_in_the_roster_there(self):
        text = "let i fun x x two call i 1 ward 1 call i 2"
        paper = paper_of(term_in(text), SHEET)
        self.shows(text, paper, True)
        whole = paper[0][2][1]
        free = [n for n in opens(paper)[1] if n != whole][0]
        self.shows(text, all_along(paper, {}, {free: ((), whole)}), False)
        self.shows(text, all_along(paper, {}, {free: ((), 9)}), True)
        self.shows(text, all_along(paper, {}, {free: ((), None)}), False)

    def test_otherwise_at_one_place(self):
        for text, rows in PAPERS:
            paper = paper_of(term_in(text), SHEET)
            for at, (place, kind, roster) in enumerate(paper):
                labels, tail = roster
                for other in (N, ("any", 50), ("pair", kind, kind), ("fun", kind, roster, kind)):
                    if other != kind:
                        self.shows(text, with_triple(paper, at, (place, other, roster)), False)
                for other in ((labels, 50), (labels, None), ((*labels, "z"), tail), (labels[1:] if labels else ("a",), tail)):
                    # The ROSTER of a single number, or of a single function, may be any.
                    if other != roster:
                        self.shows(text, with_triple(paper, at, (place, kind, other)), text in ("7", "fun x x") and place == ())

    def test_places_otherwise(self):
        for text, _ in PAPERS:
            paper = paper_of(term_in(text), SHEET)
            for at, (place, kind, roster) in enumerate(paper):
                for other in ((*place, 0), place[:-1] if place else (0,), (1,) if place != (1,) else (0,), list(place), None, 0, ""):
                    self.shows(text, with_triple(paper, at, (other, kind, roster)), False)
                if 0 in place or 1 in place:
                    truths = tuple([bool(step) if step < 2 else step for step in place])
                    self.shows(text, with_triple(paper, at, (truths, kind, roster)), False)

    def test_triples_out_twice_turned_about(self):
        for text, _ in PAPERS:
            paper = paper_of(term_in(text), SHEET)
            for at, triple in enumerate(paper):
                self.shows(text, with_triple(paper, at), False)
                self.shows(text, with_triple(paper, at, triple, triple), False)
                if at:
                    self.shows(text, [*paper[:at - 1], triple, paper[at - 1], *paper[at + 1:]], False)
            self.shows(text, [*paper, paper[0]], False)
            self.shows(text, [], False)
            if len(paper) > 1:
                self.shows(text, paper[::-1], False)

    def test_lists_for_tuples_and_truths_for_numbers(self):
        for text, _ in PAPERS:
            paper = paper_of(term_in(text), SHEET)
            self.shows(text, tuple(paper), False)
            for at, (place, kind, roster) in enumerate(paper):
                labels, tail = roster
                others = [list(paper[at]), (place, kind), (place, kind, roster, roster), (place, kind, list(roster)), (place, kind, None),
                          (place, kind, (list(labels), tail)), (place, kind, (labels, True)), (place, kind, (labels, -1)),
                          (place, None, roster), (place, ("any", True), roster), (place, ("any", -1), roster), (place, "Number", roster),
                          (place, kind, (("put", "get"), tail)), (place, kind, (("00:get",), tail))]
                if kind != N:
                    others.append((place, list(kind), roster))
                for other in others:
                    self.shows(text, with_triple(paper, at, other), False)

    def test_labels_of_an_under_where_they_maynt_stand(self):
        text = "fun f two 1 under h pastof h call f 1 x x 1 end get u u"
        paper = paper_of(term_in(text), SHEET)
        self.shows(text, paper, True)
        tail = paper[1][2][1]
        self.shows(text, all_along(paper, {}, {tail: (("0.0:get",), tail)}), True)
        self.shows(text, all_along(paper, {}, {tail: (("0.1:get",), tail)}), False)
        self.shows(text, all_along(paper, {}, {tail: (("0.1:put",), tail)}), True)
        # In its KIND.
        text = "under h fun x 1 y y 0"
        self.shows(text, paper_of(term_in(text), SHEET), True)
        text = "under h askof h get 1 x fun y y 1 end get u fun y y"
        paper = paper_of(term_in(text), SHEET)
        self.shows(text, paper, True)
        self.shows(text, all_along(paper, {opens(paper)[0][0]: kind_in("fun number [ 0:get ] number")}, {}), True)
        self.shows(text, all_along(paper, {opens(paper)[0][0]: kind_in("fun number [ :get ] number")}, {}), False)
        # In its ROSTER.
        whole = paper[0][2][1]
        self.shows(text, all_along(paper, {}, {whole: ((":get",), whole)}), False)
        self.shows(text, all_along(paper, {}, {whole: ((":put",), whole)}), True)
        # In what's known.
        text = "under h askof h get z x x 1 end get u u"
        self.shows(text, paper_of(term_in(text), SHEET, known=(("z", N),)), True, known=(("z", N),))
        more = (("y", kind_in("fun number [ :get ] number")), ("z", N))
        self.shows(text, paper_of(term_in(text), SHEET, known=(("z", N),)), False, known=more)

    def test_a_ward_that_asks(self):
        text = "ward 1 ask get 2"
        for cleaning in ("[ ]", "[ get ]", "[ get r0 ]", "[ r0 ]"):
            for whole in ("[ ]", "[ get ]", "[ get r0 ]"):
                rows = [((), "number", whole), ((0,), "number", whole), ((1,), "number", cleaning), ((1, 0), "number", cleaning)]
                self.shows(text, read(rows), False)
        text = "ward 1 2"
        for cleaning, told in (("[ ]", True), ("[ get ]", False), ("[ r0 ]", False), ("[ r1 ]", False)):
            self.shows(text, read([((), "number", "[ r0 ]"), ((0,), "number", "[ r0 ]"), ((1,), "number", cleaning)]), told)

    def test_a_use_that_its_kind_does_not_come_to(self):
        text = "let i fun x x i"
        rows = [((), "K", "[ r0 ]"), ((0,), "fun a0 [ r1 ] a0", "[ r0 ]"), ((0, 0), "a0", "[ r1 ]"), ((1,), "K", "[ r0 ]")]
        for kind, told in (("fun number [ ] number", True), ("fun a0 [ r1 ] a0", True), ("fun a3 [ get r0 ] a3", True),
                           ("fun number [ ] a0", False), ("fun a0 [ ] a1", False), ("number", False), ("a0", False),
                           ("pair number number", False), ("fun fun a1 [ ] a1 [ r1 ] fun a1 [ ] a1", True),
                           ("fun fun a1 [ ] a1 [ r1 ] fun a1 [ r1 ] a1", False)):
            self.shows(text, read([(place, kind if own == "K" else own, roster) for place, own, roster in rows]), told)

    def test_kinds_within_kinds_that_are_none(self):
        # What's handed stands nowhere else in the paper.
        for handed, told in (("number", True), (("any", 0), True), (("pair", ("any", 7), "number"), True),
                             (("fun", "number", (("get", "get"), 3), ("any", 2)), True), ("numbers", False), (None, False), (7, False), ((), False),
                             (("any", True), False), (("any", -1), False), (("any", 0, 0), False), (("pair", "number"), False),
                             (["any", 0], False), (("fun", "number", "number"), False), (("fun", "number", ((), None)), False),
                             (("fun", "more", ((), None), "number"), False), (("fun", "number", ((), None), "more"), False),
                             (("fun", "number", (("Get",), None), "number"), False), (("fun", "number", (("put", "get"), None), "number"), False),
                             (("fun", "number", ((), True), "number"), False), (("fun", "number", ([], None), "number"), False),
                             (("pair", ("pair", "number", ("any", False)), "number"), False), (("pair", "number", ("two", "number", "number")), False)):
            self.shows("fun x 1", [((), ("fun", handed, ((), 1), "number"), ((), 0)), ((0,), "number", ((), 1))], told)

    def test_anything_is_answered(self):
        text = "deep ask get 1 x two x x 1 many get u k call k u"
        paper = paper_of(term_in(text), SHEET)
        for thing in anything():
            self.shows(text, thing, False)
            self.shows(text, [thing] * len(paper), False)
            for at, (place, kind, roster) in enumerate(paper):
                for other in (thing, (thing, kind, roster), (place, thing, roster), (place, kind, thing), (place, kind, ((thing,), None))):
                    told = shows_kinds(term_in(text), SHEET, with_triple(paper, at, other))
                    self.assertIs(told, False)

    def test_papers_of_whatever_size(self):
        text = "fun x x"
        kind = ("any", 0)
        for _ in range(1500):
            kind = put_in(("fun", ("any", 0), (tuple(["get"] * 12), 0), ("pair", N, N)), {0: kind}, {})
        paper = all_along(paper_of(term_in(text), SHEET), {0: kind}, {1: (tuple(["get"] * 50), 1)})
        self.shows(text, paper, True)
        self.shows(text, with_triple(paper, 1, (*paper[1][:1], ("pair", N, kind), paper[1][2])), False)
        text = "let a 1 let b two a a let c two b b let d two c c let e two d d let f two e e let g two f f two g g"
        paper = paper_of(term_in(text), SHEET)
        self.assertEqual(len(kind_text(paper[0][1]).split(" ")), 255)
        self.shows(text, paper, True)


class LabelTest(unittest.TestCase):
    def test_labels(self):
        self.assertEqual(label_of((), "get"), ":get")
        self.assertEqual(label_of((0, 2), "get"), "0.2:get")
        self.assertEqual(label_of((0,), "get"), "0:get")
        self.assertEqual(label_of(place=(5, 10, 0), deed="put"), "5.10.0:put")

    def test_kinds_far_deeper_than_what_is_handed_in(self):
        for word in ("two", "fun"):
            term = ("num", 1)
            for _ in range(700):
                term = ("two", term, ("num", 1)) if word == "two" else ("fun", "x", term)
            paper = paper_of(term, SHEET)
            self.assertIs(shows_kinds(term, SHEET, paper), True)
            place, _, roster = paper[-1]
            self.assertIs(shows_kinds(term, SHEET, [*paper[:-1], (place, ("any", 0), roster)]), False)
            place, kind, roster = paper[0]
            self.assertIs(shows_kinds(term, SHEET, [(place, ("pair", kind, kind), roster), *paper[1:]]), False)


if __name__ == "__main__":
    unittest.main()
