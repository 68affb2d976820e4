"""The classes of what is refused, as the interface lists them."""

import unittest

from gridscope import errors

UNDER_GRID_ERROR = (
    "BadSize", "BadMany", "BadText", "BadLook", "BadAxis", "BadHold", "BadScreen", "BadScroll", "BadWay",
    "BadDeed", "Full", "NotMerged", "BadStep", "BadPage", "Boxed",
)
UNDER_BEYOND = ("NoIndex", "NoPoint", "NoPlace", "NothingLeft")


class Families(unittest.TestCase):
    def check(self, name, base):
        kind = getattr(errors, name)
        self.assertEqual(kind.__bases__, (base,), name)
        self.assertEqual(kind.__name__, name)
        self.assertEqual(kind.__module__, "gridscope.errors")

    def test_heads(self):
        self.check("GridError", ValueError)
        self.check("Missing", LookupError)
        self.check("Beyond", IndexError)

    def test_under_grid_error(self):
        for name in UNDER_GRID_ERROR:
            self.check(name, errors.GridError)

    def test_under_boxed(self):
        for name in ("Inside", "Overlap"):
            self.check(name, errors.Boxed)

    def test_under_missing(self):
        self.check("NoCell", errors.Missing)

    def test_under_beyond(self):
        for name in UNDER_BEYOND:
            self.check(name, errors.Beyond)

    def test_a_family_is_not_another(self):
        self.assertFalse(issubclass(errors.NoCell, errors.GridError))
        self.assertFalse(issubclass(errors.NoIndex, errors.Missing))
        self.assertFalse(issubclass(errors.NoIndex, ValueError))
        self.assertFalse(issubclass(errors.NoCell, IndexError))
        self.assertFalse(issubclass(errors.GridError, LookupError))


class Fields(unittest.TestCase):
    def test_step(self):
        refused = errors.BadStep(3, "NoCell")
        self.assertEqual((refused.where, refused.word), (3, "NoCell"))

    def test_page(self):
        self.assertEqual(errors.BadPage(7).row, 7)
        self.assertEqual(errors.BadPage(0).row, 0)

    def test_taken(self):
        for kind in (errors.Boxed, errors.Inside, errors.Overlap):
            self.assertEqual(kind((1, 2, 3, 4)).taken, (1, 2, 3, 4))

    def test_caught_by_the_family(self):
        with self.assertRaises(errors.Boxed) as caught:
            raise errors.Overlap((0, 0, 1, 2))
        self.assertEqual(caught.exception.taken, (0, 0, 1, 2))
        with self.assertRaises(ValueError):
            raise errors.BadStep(0, "Full")
        with self.assertRaises(LookupError):
            raise errors.NoCell("far")
        with self.assertRaises(IndexError):
            raise errors.NothingLeft("nothing")


if __name__ == "__main__":
    unittest.main()
