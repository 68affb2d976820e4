"""Many deeds one behind the other, refused ones among them: points [1], [5], [6], [7] and [15]."""

import random
import unittest

from compared import Compared, pair
from gridscope.sheet import Sheet
from plain_sheet import AXES, refused, told
from plain_text import HEIGHTS, LOOKS, SIDES, some_text

WORDS = ("text", "text", "text", "look", "look", "merge", "merge", "part", "size", "common", "hide", "show", "put",
         "cut", "fit", "fit")


def some_deed(chance, plain):
    """A deed by chance, often one that is let, sometimes one beyond."""
    word = chance.choice(WORDS)
    row, column = chance.randint(-1, plain.count("row")), chance.randint(-1, plain.count("column"))
    if chance.random() < 0.9:
        row, column = chance.randrange(plain.count("row")), chance.randrange(plain.count("column"))
    if word == "text":
        return (word, row, column, some_text(chance, chance.choice((3, 12, 40, 44))))
    if word == "look":
        side = chance.choice(SIDES) if chance.random() < 0.95 else "no"
        height = chance.choice(HEIGHTS) if chance.random() < 0.95 else "no"
        return (word, row, column, side, height, chance.random() < 0.6)
    if word == "merge":
        return (word, row, column, chance.randint(0, 3), chance.randint(0, 3))
    if word == "part":
        return (word, row, column)
    axis = chance.choice(AXES) if chance.random() < 0.97 else "no"
    number = row if axis == "row" else column
    if word in ("common", "fit"):
        return (word, axis, number)
    if word == "size":
        return (word, axis, number, chance.randint(0, 12))
    return (word, axis, number, chance.randint(0, 3))


class Runs(Compared):
    def test_by_chance(self):
        for seed in range(60):
            chance = random.Random(seed)
            sheet, plain = pair(chance.randint(1, 7), chance.randint(1, 7), (), chance.randint(1, 3), chance.randint(1, 6))
            twin, kept = sheet.twin(), plain.told()
            for _ in range(60):
                deed = some_deed(chance, plain)
                self.check(sheet, plain, deed)
            self.check_drawn(sheet, plain)
            self.assertEqual(told(twin), kept)

    def test_deeds_that_are_handed_in_stay(self):
        deed = ("text", 0, 0, "x")
        Sheet().do(deed)
        self.assertEqual(deed, ("text", 0, 0, "x"))

    def test_every_deed_tells_none(self):
        sheet = Sheet(9, 9)
        for deed in (("text", 0, 0, "x"), ("text", 0, 0, ""), ("look", 0, 0, *LOOKS[5]), ("look", 0, 0, *LOOKS[0]),
                     ("merge", 0, 0, 2, 2), ("part", 1, 1), ("size", "row", 0, 2), ("common", "row", 0),
                     ("hide", "column", 0, 2), ("show", "column", 0, 2), ("put", "row", 0, 1), ("cut", "row", 0, 1),
                     ("fit", "row", 0), ("fit", "column", 0)):
            self.assertIsNone(sheet.do(deed))

    def test_refused_again(self):
        sheet, plain = pair(3, 3, [("merge", 0, 0, 2, 2), ("text", 0, 0, "x")])
        for _ in range(3):
            for deed, due in ((("text", 1, 1, "y"), ("Inside", (0, 0, 2, 2))), (("part", 2, 2), ("NotMerged", None)),
                              (("merge", 1, 1, 2, 2), ("Overlap", (0, 0, 2, 2))), (("cut", "row", 0, 3), ("BadMany", None))):
                self.assertEqual(refused(sheet.do, deed), due)
        self.assertEqual(told(sheet), plain.told())


if __name__ == "__main__":
    unittest.main()
