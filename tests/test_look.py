"""look.py ([9], [10]): programs of which the kinds are known by hand, and such as have none."""

import unittest

from handledeeds.errors import Clash
from handledeeds.kinds import settled
from handledeeds.kindtext import kind_in, kind_text, roster_text
from handledeeds.look import kind_of, look
from handledeeds.terms import parts_of
from handledeeds.termtext import term_in
from tests.chance import SHEET

N = "number"

# The sheet: get, stop of numbers, each answered by one; put of a pair, by a number; say of a number, by a pair.

# Each rule of [9]: a text, its KIND, its ROSTER.
TOLD = [
    # num, name, fun, rec
    ("7", "number", "[ r0 ]"),
    ("fun x 7", "fun a0 [ r0 ] number", "[ r1 ]"),
    ("fun x x", "fun a0 [ r0 ] a0", "[ r1 ]"),
    ("fun x fun y x", "fun a0 [ r0 ] fun a1 [ r1 ] a0", "[ r2 ]"),
    ("fun x fun x x", "fun a0 [ r0 ] fun a1 [ r1 ] a1", "[ r2 ]"),
    ("fun x ask get x", "fun number [ get r0 ] number", "[ r1 ]"),
    ("rec f x x", "fun a0 [ r0 ] a0", "[ r1 ]"),
    ("rec f x call f x", "fun a0 [ r0 ] a1", "[ r1 ]"),
    ("rec f x call f plus x 1", "fun number [ r0 ] a0", "[ r1 ]"),
    ("rec f x if x call f ask get x 3", "fun number [ get r0 ] number", "[ r1 ]"),
    # call
    ("call fun x x 7", "number", "[ r0 ]"),
    ("fun f call f 1", "fun fun number [ r0 ] a0 [ r0 ] a0", "[ r1 ]"),
    ("call fun x ask get x 1", "number", "[ get r0 ]"),
    ("call fun f call f 1 fun x ask get x", "number", "[ get r0 ]"),
    ("call ask say 1 2", None, ((), "kinds")),
    ("fun f fun x call f call f x", "fun fun a0 [ r0 ] a0 [ r1 ] fun a0 [ r0 ] a0", "[ r2 ]"),
    ("call 1 2", None, ((), "kinds")),
    ("call fun x plus x 1 two 1 2", None, ((), "kinds")),
    ("fun x call x x", None, ((0,), "kinds")),
    # op, if
    ("plus 1 2", "number", "[ r0 ]"),
    ("fun x fun y below x y", "fun number [ r0 ] fun number [ r1 ] number", "[ r2 ]"),
    ("times two 1 2 3", None, ((), "kinds")),
    ("less 3 two 1 2", None, ((), "kinds")),
    ("plus ask get 1 ask stop 2", "number", "[ get stop r0 ]"),
    ("if 1 two 1 2 two 3 4", "pair number number", "[ r0 ]"),
    ("fun x if x x 1", "fun number [ r0 ] number", "[ r1 ]"),
    ("fun x fun y if 1 x y", "fun a0 [ r0 ] fun a0 [ r1 ] a0", "[ r2 ]"),
    ("if two 1 2 3 4", None, ((), "kinds")),
    ("if 1 two 1 2 3", None, ((), "kinds")),
    # two, first, second
    ("two 1 fun x x", "pair number fun a0 [ r0 ] a0", "[ r1 ]"),
    ("first two 1 two 2 3", "number", "[ r0 ]"),
    ("second two 1 two 2 3", "pair number number", "[ r0 ]"),
    ("fun x first x", "fun pair a0 a1 [ r0 ] a0", "[ r1 ]"),
    ("fun x second x", "fun pair a0 a1 [ r0 ] a1", "[ r1 ]"),
    ("first 1", None, ((), "kinds")),
    ("second fun x x", None, ((), "kinds")),
    # ask
    ("ask get 1", "number", "[ get r0 ]"),
    ("ask say 1", "pair number number", "[ say r0 ]"),
    ("ask put ask say 1", "number", "[ put say r0 ]"),
    ("plus ask get 1 ask get 1", "number", "[ get r0 ]"),
    ("ask get two 1 2", None, ((), "kinds")),
    ("plus ask say 1 2", None, ((), "kinds")),
    ("ask put 1", None, ((), "kinds")),
    ("fun x ask put x", "fun pair number number [ put r0 ] number", "[ r1 ]"),
    # past: what T may ask, and the deed once more
    ("past get 1", "number", "[ get r0 ]"),
    ("past get ask get 1", "number", "[ get get r0 ]"),
    ("past get ask stop 1", "number", "[ get stop r0 ]"),
    ("past get past get ask get 1", "number", "[ get get get r0 ]"),
    ("past get past stop two 1 2", "pair number number", "[ get stop r0 ]"),
    ("plus past get ask get 1 ask get 2", "number", "[ get get r0 ]"),
    ("deep past get ask get 1 x x 1 quick get u u", "number", "[ get r0 ]"),
    ("deep deep past get ask get 1 x x 1 quick get u u x x 1 quick get u u", "number", "[ r0 ]"),
    ("deep past stop ask get 1 x x 1 quick get u u", "number", "[ stop r0 ]"),
    # handle: deep
    ("deep ask get 1 x two x x 1 quick get u u", "pair number number", "[ r0 ]"),
    ("deep ask get 1 x x 1 end get u u", "number", "[ r0 ]"),
    ("deep 1 x x 0", "number", "[ r0 ]"),
    ("deep ask get 1 x x 0", "number", "[ get r0 ]"),
    ("deep two 1 2 x first x 1 end get u plus u 1", "number", "[ r0 ]"),
    ("deep ask get 1 x fun s two x s 1 many get u k fun s call call k u s", "fun a0 [ r0 ] pair number a0", "[ r0 ]"),
    ("deep ask get 1 x x 1 quick get u ask get u", "number", "[ get r0 ]"),
    ("deep ask get 1 x ask stop x 1 quick get u u", "number", "[ stop r0 ]"),
    ("deep ask get ask stop 1 x x 2 quick get u u end stop u 7", "number", "[ r0 ]"),
    ("fun f deep call f 1 x x 1 end get u u", "fun fun number [ get r0 ] number [ r0 ] number", "[ r1 ]"),
    ("fun f deep call f 1 x x 2 end get u 1 end stop u 2", "fun fun number [ get stop r0 ] number [ r0 ] number", "[ r1 ]"),
    ("deep ask put two 1 2 x x 1 end put u first u", "number", "[ r0 ]"),
    ("deep first ask say 1 x x 1 quick say u two u u", "number", "[ r0 ]"),
    ("deep ask get 1 x x 1 quick get u two u u", None, ((), "kinds")),
    ("deep ask get 1 x x 1 end get u two u u", None, ((), "kinds")),
    ("deep ask get 1 x x 1 many get u k two 1 2", None, ((), "kinds")),
    ("deep ask get 1 x x 1 many get u k k", None, ((), "kinds")),
    ("deep two 1 2 x plus x 1 0", None, ((1,), "kinds")),
    ("deep 1 x x 1 end put u plus u 1", None, ((2,), "kinds")),
    ("deep 1 x two x x 1 many get u k plus 1 call k u", None, ((), "kinds")),
    ("deep 1 x x 1 many say u k call k u", None, ((2,), "kinds")),
    # handle: shallow
    # What's kept of a shallow one asks what V's ROSTER hasn't: it takes a ROSTER of its own.
    ("shallow ask get 1 x two x x 1 many get u k two call k u 1", None, ((2, 0), "kinds")),
    ("shallow ask get 1 x x 1 many get u k call k u", None, ((2,), "kinds")),
    ("shallow ask get 1 x x 1 many get u k deep call k u x x 1 end get u 7", "number", "[ r0 ]"),
    ("shallow ask get 1 x two x x 1 many get u k deep call k u x two x 1 1 end get u two u u", "pair number number", "[ r0 ]"),
    ("shallow ask get 1 x two x x 1 many get u k deep call k u x x 1 end get u two u u", None, ((2,), "kinds")),
    ("shallow ask get 1 x two x x 1 many get u k two u u", "pair number number", "[ r0 ]"),
    ("shallow ask get 1 x fun y x 1 many get u k fun y plus y call k u", "fun number [ get r0 ] number", "[ r0 ]"),
    ("shallow 1 x two x x 1 many get u k call k u", None, ((2,), "kinds")),
    ("rec h f shallow call f 0 x x 1 many get u k call h fun y call k 7",
     "fun fun number [ get r0 ] a0 [ r0 ] a0", "[ r1 ]"),
    # under, askof, pastof
    ("under h askof h get 1 x x 1 quick get u u", "number", "[ r0 ]"),
    ("under h ask get 1 x x 1 quick get u u", "number", "[ get r0 ]"),
    ("under h askof h get 1 x two x x 1 many get u k call k plus u 1", "pair number number", "[ r0 ]"),
    ("under h askof h say 1 x x 1 end say u two u u", "pair number number", "[ r0 ]"),
    ("under h pastof h ask get 1 x x 2 end get u u end stop u u", "number", "[ get r0 ]"),
    ("under h under h askof h get 1 x x 1 end get u u x x 1 end get u u", "number", "[ r0 ]"),
    ("fun f under h pastof h call f 1 x x 2 end get u u end stop u u", "fun fun number [ r0 ] number [ r0 ] number", "[ r1 ]"),
    ("under h call fun x askof h get x 1 x x 1 end get u u", "number", "[ r0 ]"),
    ("under h let f fun x askof h get x plus call f 1 call f 2 x x 1 quick get u u", "number", "[ r0 ]"),
    ("under h under g plus askof h get 1 askof g get 1 x x 1 end get u u x x 1 end get u u", "number", "[ r0 ]"),
    ("fun f under h under g pastof g pastof h call f 1 x x 1 end get u u x x 1 end get u u", "fun fun number [ r0 ] number [ r0 ] number",
     "[ r1 ]"),
    ("fun f under h under g pastof h pastof g call f 1 x x 1 end get u u x x 2 end get u u end stop u u",
     "fun fun number [ r0 ] number [ r0 ] number", "[ r1 ]"),
    ("fun f under h under g pastof h call f 1 x x 1 end get u u x x 1 end get u u", None, ((0, 0), "out")),
    ("fun f under h call f 1 x x 0", "fun fun number [ r0 ] a0 [ r0 ] a0", "[ r1 ]"),
    ("under h askof h get two 1 2 x x 1 quick get u u", None, ((0,), "kinds")),
    ("under h askof h get 1 x x 1 quick get u two u u", None, ((), "kinds")),
    # ward
    ("ward 1 2", "number", "[ r0 ]"),
    ("ward ask get 1 2", "number", "[ get r0 ]"),
    ("ward fun x x 2", "fun a0 [ r0 ] a0", "[ r1 ]"),
    ("ward 1 two 1 2", None, ((), "kinds")),
    ("ward 1 fun x x", None, ((), "kinds")),
    ("ward 1 ask get 2", None, ((1,), "kinds")),
    ("ward 1 past get 2", None, ((1,), "kinds")),
    ("ward 1 deep ask get 2 x x 1 quick get u u", "number", "[ r0 ]"),
    ("ward 1 deep ask stop 2 x x 1 quick get u u", None, ((1, 0), "kinds")),
    ("fun f ward 1 call f 2", "fun fun number [ ] number [ r0 ] number", "[ r1 ]"),
    ("fun f plus call f 1 ward 1 call f 2", "fun fun number [ ] number [ ] number", "[ r0 ]"),
    ("fun f let y plus call f 1 ask get 1 ward 1 call f 2", None, ((0, 1, 1), "kinds")),
    ("fun x ward ask get 1 x", "fun number [ get r0 ] number", "[ r1 ]"),
]

# let: of num, name, fun, rec what's open may be something else at each x; of all else it may not.
LETS = [
    ("let x 1 plus x x", "number", "[ r0 ]"),
    ("let x two 1 2 first x", "number", "[ r0 ]"),
    ("let i fun x x i", "fun a0 [ r0 ] a0", "[ r1 ]"),
    ("let i fun x x two call i 1 call i two 1 2", "pair number pair number number", "[ r0 ]"),
    ("let i fun x x call i i", "fun a0 [ r0 ] a0", "[ r1 ]"),
    ("let i rec f x x two call i 1 call i two 1 2", "pair number pair number number", "[ r0 ]"),
    ("let i fun x x let j i two call j 1 call j two 1 2", "pair number pair number number", "[ r0 ]"),
    ("let i fun x x let i i let i i two call i 1 call i two 1 2", "pair number pair number number", "[ r0 ]"),
    ("let i two fun x x 1 two call first i 1 call first i two 1 2", None, ((1, 1), "kinds")),
    ("let i if 1 fun x x fun x x two call i 1 call i two 1 2", None, ((1, 1), "kinds")),
    ("let i call fun x x fun x x two call i 1 call i two 1 2", None, ((1, 1), "kinds")),
    ("let i let j fun x x j two call i 1 call i two 1 2", None, ((1, 1), "kinds")),
    ("let i first two fun x x 1 two call i 1 call i two 1 2", None, ((1, 1), "kinds")),
    ("let i past get fun x x two call i 1 call i two 1 2", None, ((1, 1), "kinds")),
    ("let i ward fun x x 1 two call i 1 call i two 1 2", None, ((1, 1), "kinds")),
    ("let i deep fun x x x x 0 two call i 1 call i two 1 2", None, ((1, 1), "kinds")),
    ("let i call fun x x fun x x call i 1", "number", "[ r0 ]"),
    # Open tails, too.
    ("let i fun f call f 1 two call i fun x ask get x fun y call i fun x x",
     "pair number fun a0 [ r0 ] number", "[ get r1 ]"),
    ("fun i two call i fun x ask get x fun y call i fun x x",
     "fun fun fun number [ get r0 ] number [ r1 ] a0 [ r1 ] pair a0 fun a1 [ r1 ] a0", "[ r2 ]"),
    # Not what stands around.
    ("fun y let i fun x y two call i 1 call i two 1 2", "fun a0 [ r0 ] pair a0 a0", "[ r1 ]"),
    ("fun y let i y two call i 1 call i two 1 2", None, ((0, 1, 1), "kinds")),
    ("fun y let i fun x call y x two call i 1 call i two 1 2", None, ((0, 1, 1), "kinds")),
    ("fun y let i fun x two x y two call i 1 call i two 1 2",
     "fun a0 [ r0 ] pair pair number a0 pair pair number number a0", "[ r1 ]"),
    ("rec f y let i f two call i 1 call i two 1 2", None, ((0, 1, 1), "kinds")),
    ("deep fun z z y let i y two call i 1 call i two 1 2 0", None, ((1, 1, 1), "kinds")),
    # Not what stands open in the ROSTER there.
    ("deep 1 x fun s s 1 many get u k let i k two call i 1 call i 2", None, ((), "kinds")),
    # But what may be something else around may be so here, too.
    ("let i fun x x let j fun y call i y two call j 1 call j two 1 2", "pair number pair number number", "[ r0 ]"),
    ("let k fun x fun y x let j call k 1 two call j 1 call j 2", "pair number number", "[ r0 ]"),
    ("let k fun x fun y x let j fun z call k z two call call j 1 2 call call j two 1 2 3",
     "pair number pair number number", "[ r0 ]"),
]


def twos(parts):
    """A term of an odd number of parts, twos of twos, not deep."""
    if parts == 1:
        return ("num", 1)
    left = (parts - 1) // 2
    left -= 1 - left % 2
    return ("two", twos(left), twos(parts - 1 - left))


def said(text, known=()):
    """What is told of a text: (kind's text, roster's text), or (None, (PLACE, why))."""
    try:
        kind, roster = look(term_in(text), SHEET, known=known)
    except Clash as clash:
        return (None, (clash.place, clash.why))
    return (kind_text(kind), roster_text(roster))


class LookTest(unittest.TestCase):
    def test_each_rule(self):
        for text, kind, roster in TOLD:
            with self.subTest(text):
                self.assertEqual(said(text), (kind, roster))

    def test_lets(self):
        for text, kind, roster in LETS:
            with self.subTest(text):
                self.assertEqual(said(text), (kind, roster))

    def test_settled(self):
        for text, kind, _ in [*TOLD, *LETS]:
            if kind is not None:
                told = look(term_in(text), SHEET)
                self.assertIs(type(told), tuple)
                self.assertEqual(settled(told[0], told[1]), told)

    def test_kind_of(self):
        for text, kind, roster in [*TOLD, *LETS]:
            with self.subTest(text):
                if kind is not None:
                    self.assertEqual(kind_of(term_in(text), SHEET), look(term_in(text), SHEET)[0])
                else:
                    with self.assertRaises(Clash) as caught:
                        kind_of(term_in(text), SHEET)
                    self.assertEqual((caught.exception.place, caught.exception.why), roster)

    def test_by_name(self):
        term = term_in("call f ask get 1")
        known = (("f", kind_in("fun a0 [ r0 ] a0")),)
        self.assertEqual(look(term=term, sheet=SHEET, known=known), (N, (("get",), 0)))
        self.assertEqual(kind_of(term=term, sheet=SHEET, known=known), N)
        with self.assertRaises(TypeError):
            look(term, SHEET, known)

    def test_asked_again(self):
        for text, _, _ in LETS:
            self.assertEqual(said(text), said(text))


class KnownTest(unittest.TestCase):
    def test_a_known_name(self):
        self.assertEqual(said("x", (("x", N),)), ("number", "[ r0 ]"))
        self.assertEqual(said("plus x 1", (("x", ("pair", N, N)),)), (None, ((), "kinds")))
        self.assertEqual(said("fun x x", (("x", N),)), ("fun a0 [ r0 ] a0", "[ r1 ]"))
        self.assertEqual(said("y", (("x", N),)), (None, ((), "name")))

    def test_a_closed_roster(self):
        known = (("f", kind_in("fun number [ get ] number")),)
        self.assertEqual(said("call f 1", known), ("number", "[ get ]"))
        self.assertEqual(said("plus call f 1 ask stop 1", known), (None, ((1,), "kinds")))
        self.assertEqual(said("ward 1 call f 1", known), (None, ((1,), "kinds")))
        self.assertEqual(said("ward 1 deep call f 1 x x 1 end get u u", known), ("number", "[ r0 ]"))

    def test_open_kinds_and_tails_used_twice(self):
        known = (("f", kind_in("fun fun a0 [ r0 ] a1 [ r0 ] a1")), ("i", kind_in("fun a0 [ r0 ] a0")))
        self.assertEqual(said("two call i 1 call i two 1 2", known), ("pair number pair number number", "[ r0 ]"))
        self.assertEqual(said("two i i", known), ("pair fun a0 [ r0 ] a0 fun a1 [ r1 ] a1", "[ r2 ]"))
        self.assertEqual(said("call f fun x ask get x", known), ("number", "[ get r0 ]"))
        self.assertEqual(said("fun z two call f fun x 1 ward 1 call f fun x x", known),
                         ("fun a0 [ r0 ] pair number number", "[ r1 ]"))
        self.assertEqual(said("deep call f fun x ask get x y ward y call f fun x 1 1 end get u 1", known), ("number", "[ r0 ]"))
        self.assertEqual(said("let j i two call j 1 call j two 1 2", known), ("pair number pair number number", "[ r0 ]"))

    def test_opens_of_one_known_name_called_alike_in_another(self):
        known = (("f", kind_in("fun a0 [ r0 ] number")), ("g", kind_in("fun a0 [ r0 ] a0")))
        self.assertEqual(said("fun a let h fun x call g x two call h 1 call h a", known), ("fun a0 [ r0 ] pair number a0", "[ r1 ]"))
        self.assertEqual(said("under h plus call f askof h get 1 call g 2 x x 1 end get u u", known), ("number", "[ r0 ]"))


class LargeTest(unittest.TestCase):
    def test_120_parts(self):
        self.assertEqual(look(twos(119), SHEET)[1], ((), 0))
        self.assertEqual(look(("first", twos(119)), SHEET)[1], ((), 0))
        term = ("num", 1)
        while parts_of(term) < 119:
            term = ("op", "plus", ("ask", "get", ("num", 1)), term) if parts_of(term) < 117 else ("op", "plus", ("num", 1), term)
        self.assertEqual(look(term, SHEET), (N, (("get",), 0)))

    def test_rows_of_lets_within_lets(self):
        rows = "let i fun x x " + "let i i " * 18 + "two call i 1 call i two 1 2"
        self.assertEqual(said(rows.replace("let i i " * 18, "let i i " * 15)), ("pair number pair number number", "[ r0 ]"))
        row = "".join([f"let {x} fun y call {z} y " for x, z in zip("bcdefghijklmnop", "abcdefghijklmno")])
        self.assertEqual(said("let a fun x ask get x " + row + "call p 1"), ("number", "[ get r0 ]"))
        row = "".join([f"let {x} two {z} 1 " for x, z in zip("bcdefghijklmnop", "abcdefghijklmno")])
        self.assertEqual(said("let a 1 " + row + "p")[0], "pair " * 15 + "number" + " number" * 15)
        row = "".join([f"let {x} fun y call {z} y " for x, z in zip("bcdefghijklmnop", "abcdefghijklmno")])
        self.assertEqual(said("fun a " + row + "p"), ("fun fun a0 [ r0 ] a1 [ r1 ] fun a0 [ r0 ] a1", "[ r2 ]"))

    def test_lets_that_double(self):
        row = "".join([f"let {x} fun y call {z} call {z} y " for x, z in zip("bcdefghij", "abcdefghi")])
        self.assertEqual(said("let a fun x plus x 1 " + row + "call j 1"), ("number", "[ r0 ]"))
        row = "".join([f"let {x} two {z} {z} " for x, z in zip("bcdefg", "abcdef")])
        self.assertEqual(len(said("let a 1 " + row + "g")[0].split(" ")), 127)

    def test_far_deeper_than_what_is_handed_in(self):
        term = ("name", "x")
        for _ in range(300):
            term = ("let", "x", ("op", "plus", ("name", "x"), ("num", 1)), ("call", ("fun", "x", term), ("name", "x")))
        self.assertEqual(look(("fun", "x", term), SHEET), (kind_in("fun number [ r0 ] number"), ((), 1)))


if __name__ == "__main__":
    unittest.main()
