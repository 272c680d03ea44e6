"""Clash of look: at which PLACE, and why ([10])."""

import unittest

from handledeeds.errors import Clash
from handledeeds.kindtext import kind_in
from handledeeds.look import look
from handledeeds.termtext import term_in
from tests.chance import SHEET

# What isn't there: a text, the PLACE, why.
AHEAD = [
    ("x", (), "name"), ("fun x y", (0,), "name"), ("two x y", (0,), "name"), ("two 1 y", (1,), "name"),
    ("let x x 1", (0,), "name"), ("let x 1 y", (1,), "name"), ("two fun x x x", (1,), "name"), ("rec f x two f y", (0, 1), "name"),
    ("deep x x 1 0", (0,), "name"), ("deep 1 x y 0", (1,), "name"), ("deep 1 x 2 1 end get u x", (2,), "name"),
    ("deep 1 x 2 2 end get u u end stop v u", (3,), "name"), ("deep 1 x 2 1 end get u k", (2,), "name"),
    ("deep u x x 1 end get u u", (0,), "name"), ("under h h x x 0", (0,), "name"), ("ward 1 x", (1,), "name"),
    ("ask no 1", (), "deed"), ("fun x ask no x", (0,), "deed"), ("past no 1", (), "deed"), ("past get past no 1", (0,), "deed"),
    ("deep 1 x x 1 end no u u", (), "deed"), ("deep 1 x x 2 end get u u end no u u", (), "deed"),
    ("shallow 1 x x 1 many no u k u", (), "deed"), ("under h 1 x x 1 quick no u u", (), "deed"),
    ("under h askof h stop 1 x x 1 quick get u u", (0,), "deed"), ("under h askof h get 1 x x 0", (0,), "deed"),
    ("under h askof h no 1 x x 1 quick get u u", (0,), "deed"),
    ("under h under h askof h get 1 x x 1 end stop u u x x 1 end get u u", (0, 0), "deed"),
    ("askof h get 1", (), "answerer"), ("pastof h 1", (), "answerer"), ("askof h no 1", (), "answerer"),
    ("under h askof g get 1 x x 1 end get u u", (0,), "answerer"), ("under h 1 x askof h get x 1 end get u u", (1,), "answerer"),
    ("under h 1 x x 1 end get u askof h get u", (2,), "answerer"), ("under h 1 x pastof h x 0", (1,), "answerer"),
    ("fun h askof h get h", (0,), "answerer"), ("deep askof h get 1 x x 1 end get u u", (0,), "answerer"),
    # The first one in the order of places_of: the whole ahead of its parts.
    ("ask no x", (), "deed"), ("askof h get x", (), "answerer"), ("pastof h x", (), "answerer"), ("past no x", (), "deed"),
    ("deep x y y 1 end no u u", (), "deed"), ("under h askof g get x y y 1 end no u u", (), "deed"),
    ("two ask get ask no 1 x", (0, 0), "deed"), ("two x ask no 1", (0,), "name"), ("two two 1 askof h get 1 x", (0, 1), "answerer"),
    ("call fun x two x y ask no 1", (0, 0, 1), "name"), ("ask get askof h get x", (0,), "answerer"),
    # Ahead of all kinds.
    ("two plus two 1 2 3 x", (1,), "name"), ("call call 1 2 ask no 1", (1,), "deed"), ("ward ask get 1 ask get x", (1, 0), "name"),
    ("two under h fun x askof h get x x x 1 end get u u pastof h 1", (1,), "answerer"),
    ("let y first 1 x", (1,), "name"), ("deep first 1 x x 1 end get u z", (2,), "name"),
]

# The first PLACE with which all that's ahead of it lets no kinds.
KINDS = [
    # Parts ahead of the whole, and in their order.
    ("plus two 1 2 first 3", (1,)), ("plus first 1 first 3", (0,)), ("call first 1 second 2", (0,)), ("call 1 second 2", (1,)),
    ("call 1 2", ()), ("if fun x x first 1 2", (1,)), ("if fun x x 1 first 2", (2,)), ("if fun x x 1 2", ()),
    ("two 1 two 2 two first 3 4", (1, 1, 0)), ("plus two 1 2 ask get two 3 4", (1,)), ("ask get plus 1 fun x x", (0,)),
    ("first plus 1 ask say 2", (0,)), ("let x first 1 second 2", (0,)), ("let x 1 second x", (1,)), ("past get first 1", (0,)),
    ("ward first 1 second 2", (0,)), ("ward 1 second 2", (1,)), ("ward ask get 1 fun x x", ()),
    ("deep first 1 x second 2 1 end get u first u", (0,)), ("deep 1 x second 2 1 end get u first u", (1,)),
    ("deep 1 x x 2 end get u first u end stop u second u", (2,)), ("deep 1 x x 2 end get u u end stop u second u", (3,)),
    # What stands for x is there with the part that it stands in.
    ("fun x two plus x 1 first x", (0, 1)), ("fun x two first x plus x 1", (0, 1)), ("two fun x plus x 1 fun x first two x plus x fun y y", (1, 0, 0, 1)),
    ("call fun x plus x 1 two 2 3", ()), ("let x two 1 2 plus x 1", (1,)), ("let f fun x plus x 1 call f two 1 2", (1,)),
    ("deep two 1 2 x plus x 1 0", (1,)), ("deep 1 x x 1 end put u plus u 1", (2,)), ("deep 1 x x 1 end get u first u", (2,)),
    ("rec f x plus f 1", (0,)), ("rec f x two call f 1 call f two 1 2", (0, 1)), ("rec f x first call f plus x 1", ()),
    # What's kept: from what the deed is answered to the whole's KIND, in a shallow one to T's.
    ("deep 1 x x 1 many say u k call k 1", (2,)), ("deep 1 x 1 1 many get u k first call k u", ()),
    ("deep 1 x 1 2 many get u k first call k u many stop u k plus call k u 1", (3,)),
    ("deep 1 x two x x 1 many get u k let y call k u u", ()), ("deep 1 x x 1 many get u k plus k 1", (2,)),
    ("shallow two 1 2 x 1 1 many get u k plus deep call k u x x 1 end get u two 1 1 u", (2,)),
    ("shallow 1 x x 1 many get u k call k 1", (2,)),
    # That two are of one KIND is a rule of the whole.
    ("rec f x let y plus call f x 1 two 1 2", ()), ("rec f x two call f x 1", ()), ("rec f x f", ()),
    ("deep 1 x two x x 1 end get u u", ()), ("deep 1 x x 1 quick say u u", ()), ("deep 1 x x 2 end get u u end stop u two u u", ()),
    ("under h 1 x two x x 1 end get u u", ()), ("under h 1 x x 1 quick say u u", ()),
    ("fun x fun y let a plus x 1 if 1 x first two y plus 1 two 2 3", (0, 0, 1, 2, 0, 1)),
    ("fun x fun y let a plus x 1 let b first y if 1 x y", (0, 0, 1, 1)),
    # ROSTERs: a part's is there with it, what it has is a rule of the whole.
    ("ward 1 ask get two 2 3", (1,)), ("ward 1 plus 1 ask get 2", (1, 1)), ("ward 1 ask get ask stop 2", (1, 0)),
    ("ward 1 past get 2", (1,)), ("ward 1 past get ask stop 2", (1,)), ("ward 1 past get first 2", (1, 0)),
    ("ward 1 deep ask get ask stop 1 x x 1 end get u u", (1, 0, 0)), ("ward 1 deep 1 x ask get x 0", (1, 1)),
    ("ward 1 deep ask get 2 x x 1 end get u ask get u", (1, 2)), ("ward 1 under h ask get 2 x x 1 end get u u", (1, 0)),
    ("ward 1 call fun x ask get x 2", (1,)), ("fun f two ward 1 call f 2 deep call f 3 x x 1 end get u u", (0, 1, 0)),
    ("under h ward 1 askof h get 2 x x 1 end get u u", (0, 1)), ("under h ward 1 pastof h 2 x x 1 end get u u", (0, 1)),
    ("under h ward 1 pastof h 2 x x 0", None),
    ("fun k under h two call k 1 pastof h call k 1 x x 1 end get u two u u", (0, 0, 1)),
    ("deep ask get 1 x x 1 many get u k under h call k askof h get u x x 1 end get u u", (2, 0)),
    ("rec f x under h plus call f 1 askof h get x x x 1 end get u u", (0, 0, 0)),
    ("rec f x under h plus pastof h call f 1 askof h get x x x 1 end get u u", None),
    # A part's KIND that's found by what is further on clashes there.
    ("fun f fun x two call f x plus call f 1 first x", (0, 0, 1, 1)), ("fun f two call f 1 call f two 2 3", (0, 1)),
    ("two let i two fun x x 1 two call first i 1 call first i two 1 2 first 1", (0, 1, 1)),
]

# LABELs of an under that stand where they mayn't.
OUT = [
    # In its KIND.
    ("under h fun x askof h get x x x 1 quick get u u", ()), ("fun z under h fun x askof h get x x x 1 quick get u u", (0,)),
    ("under h fun x askof h get x x two x 1 0", "deed"), ("under h 1 x x 0", None),
    ("under h fun x askof h get x x two 1 x 1 quick get u u", ()), ("under h fun x pastof h x x x 1 quick get u u", ()),
    ("under h fun x pastof h x x x 0", None), ("under h fun x askof h get x x 7 1 quick get u u", None),
    # In its ROSTER.
    ("under h fun y askof h get y x call x 1 1 end get u u", ()), ("plus 1 under h fun y askof h get y x call x 1 1 end get u u", (1,)),
    # In what stands around.
    ("fun f under h call f 1 x x 1 end get u u", (0,)), ("fun f two 1 under h call f 1 x x 1 end get u u", (0, 1)),
    ("fun f under h pastof h call f 1 x x 1 end get u u", None),
    ("let f two fun x x 1 under h call first f 1 x x 1 end get u u", (1,)), ("let f fun x x under h call f 1 x x 1 end get u u", None),
    ("fun f let g f under h call g 1 x x 1 end get u u", (0, 1)), ("fun f fun g let y if 1 f g under h call g 1 x x 1 end get u u", (0, 0, 1)),
    ("fun f let g fun x call f x under h pastof h call g 1 x x 1 end get u u", None),
    ("fun f let g fun x call f x under h call g 1 x x 1 end get u u", (0, 1)),
    ("deep two fun x x 1 y under h call first y 1 x x 1 end get u u 0", (1,)),
    # Deeds are none, and other LABELs mayn't stand elsewhere, but here.
    ("under h fun x ask get x x x 1 quick get u u", None), ("under h under g fun x askof h get x y y 0 x 1 1 end get u u", None),
    ("under h under g fun x askof h get x y y 1 end get u fun x x x 1 1 end get u u", None),
    ("under h under g fun x askof g get x y y 1 end get u fun x x x 1 1 end get u u", (0,)),
    ("under h under g fun x askof h get x y y 0 x x 1 end get u fun x x", ()),
    # Where kinds can't be kept, it's that.
    ("under h fun x askof h get x x x 1 quick get u two u u", "kinds"),
    ("fun f under h call f 1 x two x x 1 end get u u", "kinds"),
]

# Which comes first, of two.
BOTH = [
    ("two under h fun x askof h get x x x 1 quick get u u first 1", (0,), "out"),
    ("two first 1 under h fun x askof h get x x x 1 quick get u u", (0,), "kinds"),
    ("first under h fun x askof h get x x x 1 quick get u u", (0,), "out"),
    ("plus 1 under h fun x askof h get x x x 1 quick get u u", (1,), "out"),
    ("under h under g fun x askof g get x x x 1 quick get u u x x 1 quick get u two u u", (0,), "out"),
    ("under h first 1 x fun y askof h get y 0", (1, 0), "answerer"),
    ("fun f let y under h call f 1 x x 1 end get u u first f", (0, 0), "out"),
    ("fun f let y first f under h call f 1 x x 1 end get u u", (0, 1, 0), "kinds"),
]


def clash(text, known=()):
    """(PLACE, why), or None where there's none."""
    try:
        look(term_in(text), SHEET, known=known)
    except Clash as caught:
        return (caught.place, caught.why)
    return None


class ClashTest(unittest.TestCase):
    def test_what_is_not_there(self):
        for text, place, why in AHEAD:
            with self.subTest(text):
                self.assertEqual(clash(text), (place, why))

    def test_kinds(self):
        for text, place in KINDS:
            with self.subTest(text):
                self.assertEqual(clash(text), None if place is None else (place, "kinds"))

    def test_out(self):
        for text, place in OUT:
            with self.subTest(text):
                if isinstance(place, str):
                    self.assertEqual(clash(text)[1], place)
                else:
                    self.assertEqual(clash(text), None if place is None else (place, "out"))

    def test_which_comes_first(self):
        for text, place, why in BOTH:
            with self.subTest(text):
                self.assertEqual(clash(text), (place, why))

    def test_known_names(self):
        known = (("f", kind_in("fun number [ get ] number")), ("x", "number"))
        self.assertIsNone(clash("call f x", known))
        self.assertEqual(clash("two x y", known), ((1,), "name"))
        self.assertEqual(clash("call f two x x", known), ((), "kinds"))
        self.assertEqual(clash("ward 1 call f x", known), ((1,), "kinds"))
        self.assertEqual(clash("under h call f x x x 1 end get u u", known), ((0,), "kinds"))
        self.assertEqual(clash("askof f get x", known), ((), "answerer"))
        self.assertIsNone(clash("under h call f x x x 1 end get u u", (("f", kind_in("fun number [ get r0 ] number")), ("x", "number"))))

    def test_with_an_empty_sheet(self):
        for text, place in (("ask get 1", ()), ("fun x past get x", (0,)), ("deep 1 x x 1 end get u u", ())):
            with self.assertRaises(Clash) as caught:
                look(term_in(text), ())
            self.assertEqual((caught.exception.place, caught.exception.why), (place, "deed"))
        self.assertEqual(look(term_in("deep 1 x x 0"), ()), ("number", ((), 0)))

    def test_places_are_tuples(self):
        for text, _, _ in AHEAD:
            self.assertIs(type(clash(text)[0]), tuple)


if __name__ == "__main__":
    unittest.main()
