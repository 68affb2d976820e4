"""The sign of a sheet at a point: point [7]."""

import itertools
import random
import unittest

from compared import Compared, pair
from gridscope.sheet import Sheet
from plain_sheet import drawn, told
from plain_text import LOOKS, some_text

FAR = 10 ** 29


class ByHand(unittest.TestCase):
    def check(self, deeds, due, **sizes):
        sheet = Sheet(3, 3, **sizes)
        for deed in deeds:
            sheet.do(deed)
        self.assertEqual([row[:-2] for row in drawn(sheet)[:-2]], due)

    def test_empty(self):
        self.check([], ["      ~", "      ~", "      ~", "~~~~~~~"], wide=2)

    def test_texts(self):
        self.check([("text", 0, 0, "abc"), ("text", 1, 1, "d"), ("text", 2, 2, "efg")],
                   ["ab    ~", "  d   ~", "    ef~", "~~~~~~~"], wide=2)

    def test_looks(self):
        self.check([("text", 0, 0, "a"), ("look", 0, 0, "right", "bottom", False), ("text", 1, 1, "b cd"),
                    ("look", 1, 1, "middle", "top", True), ("text", 2, 2, "~")],
                   ["         ~", "  a      ~", "    b    ~", "   cd    ~", "      ~  ~", "         ~", "~~~~~~~~~~"],
                   high=2, wide=3)

    def test_merged_boxes(self):
        # Four signs wide: no two of the words go on one line with a blank between.
        self.check([("text", 0, 0, "ab cd ef"), ("look", 0, 0, "middle", "middle", True), ("merge", 0, 0, 3, 2),
                    ("text", 0, 2, "x")],
                   [" ab x ~", " cd   ~", " ef   ~", "~~~~~~~"], wide=2)

    def test_sizes(self):
        self.check([("size", "row", 1, 2), ("hide", "column", 0, 1), ("text", 0, 0, "hidden"), ("text", 1, 1, "abcd"),
                    ("look", 1, 1, "left", "bottom", False), ("size", "column", 1, 3)],
                   ["     ~", "     ~", "abc  ~", "     ~", "~~~~~~"], wide=2)


class Points(Compared):
    def test_beyond(self):
        sheet = Sheet(3, 2)
        for y, x in ((3, 0), (0, 12), (3, 12), (2, 12), (3, 11), (4, 4), (FAR, 0), (0, FAR), (FAR, FAR)):
            self.assertEqual(sheet.sign(y, x), "~")
        for y, x in ((0, 0), (2, 11), (2, 0), (0, 11)):
            self.assertEqual(sheet.sign(y, x), " ")

    def test_all_hidden(self):
        sheet = Sheet(3, 2)
        sheet.do(("text", 0, 0, "text"))
        sheet.do(("hide", "row", 0, 3))
        self.assertEqual({sheet.sign(y, x) for y in range(4) for x in range(14)}, {"~"})
        sheet.do(("show", "row", 1, 1))
        self.assertEqual([sheet.sign(0, 0), sheet.sign(0, 11), sheet.sign(0, 12), sheet.sign(1, 0)], [" ", " ", "~", "~"])

    def test_hidden_parts_of_a_merged_box(self):
        deeds = [("merge", 0, 0, 3, 3), ("text", 0, 0, "one two three four"), ("look", 0, 0, "right", "bottom", True)]
        for row, column in itertools.product(range(3), repeat=2):
            for look in LOOKS:
                sheet, plain = pair(4, 4, deeds + [("look", 0, 0, *look), ("hide", "row", row, 1),
                                                   ("hide", "column", column, 1)], 2, 3)
                self.check_drawn(sheet, plain)

    def test_no_question_changes_anything(self):
        sheet, plain = pair(4, 4, [("merge", 0, 0, 3, 3), ("text", 0, 0, "one two three four"), ("text", 3, 3, "x")])
        first = drawn(sheet)
        self.assertEqual(drawn(sheet), first)
        self.assertEqual(told(sheet), plain.told())

    def test_by_chance(self):
        for seed in range(150):
            chance = random.Random(seed)
            sheet, plain = pair(4, 4, (), chance.randint(1, 4), chance.randint(1, 7))
            deeds = [("merge", chance.randrange(3), chance.randrange(3), chance.randint(1, 2), 2)]
            for row, column in itertools.product(range(4), repeat=2):
                deeds.append(("text", row, column, some_text(chance)))
                deeds.append(("look", row, column, *chance.choice(LOOKS)))
            deeds.append(("size", "row", chance.randrange(4), chance.randint(1, 6)))
            deeds.append(("size", "column", chance.randrange(4), chance.randint(1, 12)))
            deeds.append((chance.choice(("hide", "show")), "row", chance.randrange(4), 1))
            deeds.append((chance.choice(("hide", "show")), "column", chance.randrange(4), 1))
            for deed in deeds:
                if plain.do(deed) is None:
                    sheet.do(deed)
            self.check_drawn(sheet, plain)


class Great(unittest.TestCase):
    def test_the_ends_of_a_great_sheet(self):
        sheet = Sheet(1000000, 1000, high=60, wide=60)
        sheet.do(("text", 999999, 999, "end"))
        sheet.do(("look", 999999, 999, "right", "bottom", False))
        self.assertEqual([sheet.sign(59999999, x) for x in range(59996, 60001)], [" ", "e", "n", "d", "~"])
        self.assertEqual([sheet.sign(y, 59999) for y in (59999998, 59999999, 60000000)], [" ", "d", "~"])

    def test_a_great_merged_box(self):
        sheet = Sheet(1000000, 1000, high=60, wide=60)
        sheet.do(("merge", 0, 0, 1000000, 1000))
        sheet.do(("text", 0, 0, "ab"))
        for side, x in (("left", 0), ("middle", 29999), ("right", 59998)):
            for height, y in (("top", 0), ("middle", 29999999), ("bottom", 59999999)):
                for wrap in (True, False):
                    sheet.do(("look", 0, 0, side, height, wrap))
                    self.assertEqual(sheet.sign(y, x) + sheet.sign(y, x + 1), "ab")
                    for near in ((y - 1, x), (y + 1, x), (y, x - 1), (y, x + 2)):
                        if min(near) >= 0:
                            beyond = near[0] > 59999999 or near[1] > 59999
                            self.assertEqual(sheet.sign(*near), "~" if beyond else " ")

    def test_behind_set_and_hidden_rows(self):
        sheet = Sheet(1000000, 1000)
        sheet.do(("size", "row", 7, 60))
        sheet.do(("hide", "row", 100, 30))
        sheet.do(("hide", "column", 3, 1))
        sheet.do(("text", 500000, 500, "x"))
        y, x = 500000 + 59 - 30, 499 * 6
        self.assertEqual(sheet.sign(y, x), "x")
        for near in ((y - 1, x), (y + 1, x), (y, x - 1), (y, x + 1)):
            self.assertEqual(sheet.sign(*near), " ")


if __name__ == "__main__":
    unittest.main()
