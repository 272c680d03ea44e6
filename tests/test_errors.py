"""The interface's errors.py."""

import unittest

from handledeeds import errors

# Each class, Python's own that it stands straight under, its fields.
CLASSES = [
    (errors.BadText, ValueError, ("at",)),
    (errors.BadName, ValueError, ("name",)),
    (errors.BadForm, ValueError, ("thing",)),
    (errors.BadDeed, ValueError, ("number",)),
    (errors.BadAnswer, ValueError, ("value",)),
    (errors.BadRow, ValueError, ("row",)),
    (errors.Clash, ValueError, ("place", "why")),
    (errors.Unlike, ValueError, ()),
    (errors.NoName, KeyError, ("name",)),
    (errors.NoAnswerer, KeyError, ("name",)),
    (errors.NoRun, KeyError, ("number",)),
    (errors.NoPlace, LookupError, ("place",)),
    (errors.NotAsked, LookupError, ("number",)),
    (errors.Round, RuntimeError, ("name",)),
    (errors.Broken, RuntimeError, ("other",)),
    (errors.Used, RuntimeError, ("other",)),
    (errors.TooMany, OverflowError, ("many",)),
]


def things(fields):
    """One thing for each field, none equal to another, and no text or number that is shared."""
    return [["thing", field] for field in fields]


class ErrorsTest(unittest.TestCase):
    def test_there_are_seventeen(self):
        self.assertEqual(len(set([cls for cls, _, _ in CLASSES])), 17)

    def test_each_is_straight_under_pythons_own_and_defined_there(self):
        for cls, base, _ in CLASSES:
            with self.subTest(cls.__name__):
                self.assertEqual(cls.__bases__, (base,))
                self.assertEqual(cls.__module__, "handledeeds.errors")

    def test_none_is_under_another(self):
        for cls, _, _ in CLASSES:
            for other, _, _ in CLASSES:
                if cls is not other:
                    self.assertFalse(issubclass(cls, other), (cls, other))

    def test_made_by_place(self):
        for cls, _, fields in CLASSES:
            made = things(fields)
            error = cls(*made)
            for field, thing in zip(fields, made):
                self.assertIs(getattr(error, field), thing, cls)

    def test_made_by_name(self):
        for cls, _, fields in CLASSES:
            made = dict(zip(fields, things(fields)))
            error = cls(**made)
            for field in fields:
                self.assertIs(getattr(error, field), made[field], cls)

    def test_clash_by_place_and_name(self):
        place = (0, 1)
        error = errors.Clash(place, why="kinds")
        self.assertIs(error.place, place)
        self.assertEqual(error.why, "kinds")

    def test_a_number_left_out(self):
        self.assertEqual(errors.NotAsked().number, 0)
        self.assertEqual(errors.NotAsked(3).number, 3)
        self.assertEqual(errors.NotAsked(number=4).number, 4)

    def test_nothing_else_may_be_left_out_or_added(self):
        for cls, _, fields in CLASSES:
            if fields and cls is not errors.NotAsked:
                with self.assertRaises(TypeError):
                    cls()
                with self.assertRaises(TypeError):
                    cls(*things(fields), 1)

    def test_raised_and_caught_as_pythons_own(self):
        for cls, base, fields in CLASSES:
            with self.assertRaises(base) as caught:
                raise cls(*things(fields))
            self.assertIs(caught.exception.__class__, cls)
