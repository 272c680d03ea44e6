"""Looks at programs by chance, compared with another way to look, and with what the programs do."""

import unittest

from handledeeds.errors import Clash
from handledeeds.kindpapers import paper_of
from handledeeds.look import look
from tests.chance import SHEET, Maker
from tests.slowlook import slow_paper

N = "number"

KNOWN = (("xa", ("fun", ("any", 0), ((), 0), ("any", 0))), ("xb", N), ("z", ("fun", N, (("get",), 3), ("any", 1))))


def programs(first, last):
    """Pairs (program, known names) by chance; many have no kinds."""
    for seed in range(first, last):
        maker = Maker(seed)
        term = maker.closed(maker.one_of([4, 5, 7, 8, 9]))
        for _ in range(seed % 3):
            term = maker.changed(term)
        yield term, KNOWN if seed % 5 == 0 else ()


class ChanceLooksTest(unittest.TestCase):
    def test_as_another_way_to_look_tells(self):
        why = {}
        for term, known in programs(0, 2500):
            try:
                paper = paper_of(term, SHEET, known=known)
                told = ("paper", paper)
                self.assertEqual(look(term, SHEET, known=known), paper[0][1:])
            except Clash as clash:
                told = ("clash", clash.place, clash.why)
                with self.assertRaises(Clash) as caught:
                    look(term, SHEET, known=known)
                self.assertEqual((caught.exception.place, caught.exception.why), told[1:])
            self.assertEqual(told, slow_paper(term, SHEET, known), term)
            why[told[0] if told[0] == "paper" else told[2]] = True
        # So that what's compared is what's meant.
        self.assertLessEqual({"paper", "kinds", "name", "out"}, set(why))


if __name__ == "__main__":
    unittest.main()
