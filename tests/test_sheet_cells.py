"""Texts, looks and merged boxes of a sheet: points [1], [5] and [15]."""

import itertools
import unittest

from compared import Compared, pair
from gridscope.errors import Inside, Overlap
from gridscope.sheet import Sheet
from plain_sheet import PlainSheet, refused, told
from plain_text import LOOKS, PLAIN

FAR = 10 ** 29
BEGUN = [
    ("text", 0, 0, "first"), ("text", 3, 3, "one two"), ("look", 3, 3, "right", "bottom", True),
    ("merge", 1, 1, 2, 2), ("text", 1, 1, "box"), ("look", 1, 1, "middle", "middle", False),
    ("merge", 4, 0, 1, 3), ("text", 2, 0, "side"), ("look", 0, 3, "left", "bottom", False),
]
NUMBERS = (-FAR, -2, -1, 0, 1, 2, 3, 4, 5, 6, FAR)
TEXTS = ("", " ", "a", "new text", "x" * 39, "x" * 40, "x" * 41, " " * 41, "x" * 100)
NO_LOOKS = (("", "top"), ("left", ""), ("Left", "top"), ("left", "Top"), ("top", "left"), ("center", "middle"),
            ("middle", "center"), ("bottom", "bottom"), ("right", "right"), ("no", "no"))


class Texts(Compared):
    def test_every_cell_and_length(self):
        for row, column, text in itertools.product(NUMBERS, NUMBERS, TEXTS):
            self.check(*pair(5, 4, BEGUN), ("text", row, column, text))

    def test_by_hand(self):
        sheet = Sheet(5, 4)
        self.assertIsNone(sheet.do(("text", 2, 3, "abc")))
        self.assertEqual((sheet.text(2, 3), sheet.texts(), len(sheet)), ("abc", [(2, 3, "abc")], 1))
        self.assertIsNone(sheet.do(("text", 2, 3, "d")))
        self.assertEqual((sheet.text(2, 3), sheet.texts(), len(sheet)), ("d", [(2, 3, "d")], 1))
        self.assertIsNone(sheet.do(("text", 2, 3, "")))
        self.assertEqual((sheet.text(2, 3), sheet.texts(), len(sheet)), ("", [], 0))
        self.assertIsNone(sheet.do(("text", 2, 3, "")))
        self.assertEqual((sheet.text(2, 3), sheet.texts(), len(sheet)), ("", [], 0))

    def test_a_text_of_blanks_is_one(self):
        sheet = Sheet(5, 4)
        sheet.do(("text", 2, 3, "  "))
        self.assertEqual((sheet.text(2, 3), len(sheet)), ("  ", 1))

    def test_in_a_merged_box(self):
        sheet, plain = pair(5, 4, BEGUN)
        for row, column in ((1, 2), (2, 1), (2, 2)):
            for text in ("", "new"):
                with self.assertRaises(Inside) as caught:
                    sheet.do(("text", row, column, text))
                self.assertEqual(caught.exception.taken, (1, 1, 2, 2))
        self.assertEqual(told(sheet), plain.told())
        self.assertIsNone(self.check(sheet, plain, ("text", 1, 1, "new")))
        self.assertEqual(sheet.text(2, 2), "new")
        self.assertIsNone(self.check(sheet, plain, ("text", 1, 1, "")))
        self.assertEqual(sheet.text(2, 2), "")

    def test_order_of_refusals(self):
        sheet, plain = pair(5, 4, BEGUN)
        self.assertEqual(self.check(sheet, plain, ("text", 5, 0, "x" * 41)), "NoCell")
        self.assertEqual(self.check(sheet, plain, ("text", 2, 2, "x" * 41)), "BadText")
        self.assertEqual(self.check(sheet, plain, ("text", 2, 2, "x" * 40)), "Inside")

    def test_look_and_text_go_their_own_ways(self):
        sheet, plain = pair(5, 4, BEGUN)
        self.check(sheet, plain, ("text", 3, 3, ""))
        self.assertEqual(sheet.look(3, 3), ("right", "bottom", True))
        self.check(sheet, plain, ("look", 0, 0, "right", "top", False))
        self.assertEqual(sheet.text(0, 0), "first")


class Looks(Compared):
    def test_every_look(self):
        for look in LOOKS:
            for row, column in ((0, 0), (3, 3), (1, 1), (0, 3), (4, 3)):
                sheet, plain = pair(5, 4, BEGUN)
                self.assertIsNone(self.check(sheet, plain, ("look", row, column, *look)))
                self.assertEqual(sheet.look(row, column), look)

    def test_every_cell(self):
        for row, column in itertools.product(NUMBERS, repeat=2):
            for look in (("right", "middle", True), PLAIN, ("no", "top", True), ("left", "no", False)):
                self.check(*pair(5, 4, BEGUN), ("look", row, column, *look))

    def test_no_looks(self):
        for (side, height), wrap in itertools.product(NO_LOOKS, (True, False)):
            for row, column in ((0, 0), (1, 1), (4, 3)):
                sheet, plain = pair(5, 4, BEGUN)
                self.assertEqual(self.check(sheet, plain, ("look", row, column, side, height, wrap)), "BadLook")

    def test_in_a_merged_box(self):
        sheet, plain = pair(5, 4, BEGUN)
        for row, column in ((1, 2), (2, 1), (2, 2)):
            for look in (PLAIN, ("right", "top", True)):
                with self.assertRaises(Inside) as caught:
                    sheet.do(("look", row, column, *look))
                self.assertEqual(caught.exception.taken, (1, 1, 2, 2))
        self.assertEqual(told(sheet), plain.told())
        self.check(sheet, plain, ("look", 1, 1, "left", "bottom", True))
        self.assertEqual(sheet.look(2, 2), ("left", "bottom", True))

    def test_order_of_refusals(self):
        sheet, plain = pair(5, 4, BEGUN)
        self.assertEqual(self.check(sheet, plain, ("look", 0, 4, "no", "top", True)), "NoCell")
        self.assertEqual(self.check(sheet, plain, ("look", 2, 2, "no", "top", True)), "BadLook")
        self.assertEqual(self.check(sheet, plain, ("look", 2, 2, "left", "no", True)), "BadLook")
        self.assertEqual(self.check(sheet, plain, ("look", 2, 2, "left", "top", True)), "Inside")


class Merged(Compared):
    def test_everywhere(self):
        for row, column in itertools.product((-1, 0, 1, 2, 3, 4, 5), (-1, 0, 1, 2, 3, 4)):
            for high, wide in itertools.product((-1, 0, 1, 2, 3, 5, 6), (-1, 0, 1, 2, 4, 5)):
                self.check(*pair(5, 4, BEGUN), ("merge", row, column, high, wide))

    def test_far_numbers(self):
        for deed in (("merge", FAR, 0, 2, 2), ("merge", 0, -FAR, 2, 2), ("merge", 0, 0, FAR, 1), ("merge", 0, 0, 1, FAR),
                     ("merge", 0, 0, -FAR, 1), ("merge", 0, 0, 1, -FAR), ("merge", -FAR, 0, FAR, 2)):
            sheet, plain = pair(5, 4, BEGUN)
            self.assertIn(self.check(sheet, plain, deed), ("NoCell", "BadMany"))

    def test_no_room(self):
        sheet, plain = pair(5, 4)
        for deed, due in (
            (("merge", 5, 0, 1, 2), "NoCell"), (("merge", 0, 4, 2, 1), "NoCell"), (("merge", 5, 0, 0, 0), "NoCell"),
            (("merge", 0, 0, 0, 2), "BadMany"), (("merge", 0, 0, 2, 0), "BadMany"), (("merge", 0, 0, 1, 1), "BadMany"),
            (("merge", 0, 0, -1, -1), "BadMany"), (("merge", 4, 3, 0, 9), "BadMany"), (("merge", 4, 0, 2, 1), "NoCell"),
            (("merge", 0, 3, 1, 2), "NoCell"), (("merge", 0, 0, 6, 4), "NoCell"), (("merge", 0, 0, 5, 5), "NoCell"),
        ):
            self.assertEqual(self.check(sheet, plain, deed), due)
        for deed in (("merge", 0, 0, 5, 4), ("part", 4, 3), ("merge", 4, 2, 1, 2), ("merge", 0, 3, 2, 1)):
            self.assertIsNone(self.check(sheet, plain, deed))

    def test_no_room_goes_ahead_of_overlap(self):
        sheet, plain = pair(5, 4, BEGUN)
        self.assertEqual(self.check(sheet, plain, ("merge", 2, 2, 9, 9)), "NoCell")
        self.assertEqual(self.check(sheet, plain, ("merge", 2, 2, 1, 1)), "BadMany")
        self.assertEqual(self.check(sheet, plain, ("merge", 2, 2, 1, 2)), "Overlap")

    def test_over_other_boxes(self):
        sheet, plain = pair(6, 6, [("merge", 3, 0, 1, 2), ("merge", 0, 3, 2, 2), ("merge", 0, 0, 2, 2)])
        for deed, due in (
            (("merge", 0, 0, 6, 6), (0, 0, 2, 2)), (("merge", 0, 2, 6, 4), (0, 3, 2, 2)),
            (("merge", 2, 0, 4, 6), (3, 0, 1, 2)), (("merge", 0, 0, 2, 2), (0, 0, 2, 2)),
            (("merge", 0, 0, 1, 2), (0, 0, 2, 2)), (("merge", 1, 1, 3, 3), (0, 0, 2, 2)),
            (("merge", 1, 4, 3, 2), (0, 3, 2, 2)),
        ):
            with self.assertRaises(Overlap) as caught:
                sheet.do(deed)
            self.assertEqual(caught.exception.taken, due)
            self.check(sheet, plain, deed)
        for deed in (("merge", 2, 0, 1, 6), ("merge", 0, 2, 2, 1), ("merge", 3, 2, 3, 4)):
            self.assertIsNone(self.check(sheet, plain, deed))

    def test_texts_and_looks(self):
        cells = list(itertools.product(range(3), range(3)))
        deeds = [("text", row, column, f"t{row}{column}") for row, column in cells]
        deeds += [("look", row, column, "right", "top", True) for row, column in cells]
        for row, column, high, wide in itertools.product(range(3), range(3), range(1, 4), range(1, 4)):
            sheet, plain = pair(3, 3, deeds)
            self.check(sheet, plain, ("merge", row, column, high, wide))

    def test_a_box_without_text_takes_none(self):
        sheet, plain = pair(3, 3, [("text", 0, 1, "gone"), ("look", 1, 0, "right", "top", False)])
        self.check(sheet, plain, ("merge", 0, 0, 2, 2))
        self.assertEqual((sheet.texts(), sheet.text(0, 1), sheet.look(1, 0)), ([], "", PLAIN))

    def test_parted_everywhere(self):
        for row, column in itertools.product(NUMBERS, repeat=2):
            self.check(*pair(5, 4, BEGUN), ("part", row, column))

    def test_parted(self):
        for row, column in ((1, 1), (1, 2), (2, 1), (2, 2)):
            sheet, plain = pair(5, 4, BEGUN)
            self.assertIsNone(self.check(sheet, plain, ("part", row, column)))
            self.assertEqual(sheet.merged(), [(4, 0, 1, 3)])
            self.assertEqual((sheet.text(1, 1), sheet.look(1, 1)), ("box", ("middle", "middle", False)))
            self.assertEqual((sheet.text(2, 2), sheet.look(2, 2)), ("", PLAIN))
            self.assertEqual(self.check(sheet, plain, ("part", row, column)), "NotMerged")
            self.assertIsNone(self.check(sheet, plain, ("text", 2, 2, "mine")))

    def test_great_boxes(self):
        sheet = Sheet(1000000, 1000)
        sheet.do(("text", 500000, 500, "gone"))
        sheet.do(("text", 0, 1, "kept"))
        self.assertIsNone(sheet.do(("merge", 1, 0, 999999, 1000)))
        self.assertEqual(sheet.texts(), [(0, 1, "kept")])
        self.assertEqual(sheet.box(999999, 999), (1, 0, 999999, 1000))
        self.assertEqual(refused(sheet.do, ("text", 999999, 999, "x")), ("Inside", (1, 0, 999999, 1000)))
        self.assertEqual(refused(sheet.do, ("merge", 0, 0, 2, 1)), ("Overlap", (1, 0, 999999, 1000)))
        self.assertEqual(refused(sheet.do, ("merge", 0, 0, 1000001, 1)), ("NoCell", None))
        self.assertIsNone(sheet.do(("part", 777777, 7)))
        self.assertEqual(sheet.merged(), [])


class FullOfTexts(Compared):
    def begun(self):
        return pair(9, 9, [("text", k // 9, k % 9, f"t{k}") for k in range(60)] + [("merge", 7, 0, 2, 2)])

    def test_one_more(self):
        sheet, plain = self.begun()
        self.assertEqual(len(sheet), 60)
        for cell in ((8, 8), (6, 6), (7, 0)):
            self.assertEqual(self.check(sheet, plain, ("text", *cell, "x")), "Full")

    def test_other_refusals_come_first(self):
        sheet, plain = self.begun()
        for deed, due in ((("text", 9, 8, "x"), "NoCell"), (("text", 8, 9, "x"), "NoCell"),
                          (("text", 8, 8, "x" * 41), "BadText"), (("text", 8, 1, "x"), "Inside")):
            self.assertEqual(self.check(sheet, plain, deed), due)

    def test_what_is_still_let(self):
        for deed in (("text", 0, 0, "other"), ("text", 6, 5, "x" * 40), ("text", 8, 8, ""), ("text", 0, 0, ""),
                     ("text", 7, 0, ""), ("look", 8, 8, "right", "top", True), ("merge", 0, 0, 1, 2),
                     ("put", "row", 0, 1), ("cut", "row", 0, 1)):
            sheet, plain = self.begun()
            self.assertIsNone(self.check(sheet, plain, deed))

    def test_room_again(self):
        for deed in (("text", 3, 3, ""), ("merge", 0, 0, 1, 2), ("cut", "column", 8, 1)):
            sheet, plain = self.begun()
            self.assertIsNone(self.check(sheet, plain, deed))
            self.assertIsNone(self.check(sheet, plain, ("text", 8, 7, "x")))
        sheet, plain = self.begun()
        self.check(sheet, plain, ("text", 3, 3, ""))
        self.check(sheet, plain, ("text", 8, 8, "x"))
        self.assertEqual(self.check(sheet, plain, ("text", 3, 3, "y")), "Full")

    def test_one_by_one(self):
        sheet, plain = Sheet(8, 8), PlainSheet(8, 8)
        for k in range(64):
            self.assertEqual(self.check(sheet, plain, ("text", k % 8, k // 8, "x")), None if k < 60 else "Full")


class FullOfLooks(Compared):
    def begun(self):
        deeds = [("look", k // 9, k % 9, *LOOKS[1 + k % 17]) for k in range(60)]
        return pair(9, 9, deeds + [("merge", 7, 0, 2, 2), ("text", 8, 8, "x")])

    def test_one_more(self):
        sheet, plain = self.begun()
        for cell in ((8, 8), (6, 6), (7, 0)):
            for look in LOOKS:
                due = None if look == PLAIN else "Full"
                self.assertEqual(self.check(sheet, plain, ("look", *cell, *look)), due)

    def test_other_refusals_come_first(self):
        sheet, plain = self.begun()
        for deed, due in ((("look", 9, 8, "right", "top", True), "NoCell"), (("look", 8, 8, "no", "top", True), "BadLook"),
                          (("look", 8, 8, "left", "no", True), "BadLook"), (("look", 8, 1, "right", "top", True), "Inside")):
            self.assertEqual(self.check(sheet, plain, deed), due)

    def test_what_is_still_let(self):
        for deed in (("look", 0, 0, "right", "bottom", False), ("look", 0, 0, *PLAIN), ("text", 0, 0, "x"),
                     ("merge", 0, 0, 1, 2), ("put", "column", 0, 1), ("cut", "column", 0, 1)):
            sheet, plain = self.begun()
            self.assertIsNone(self.check(sheet, plain, deed))

    def test_room_again(self):
        for deed in (("look", 3, 3, *PLAIN), ("merge", 0, 0, 1, 2), ("cut", "column", 8, 1)):
            sheet, plain = self.begun()
            self.check(sheet, plain, deed)
            self.assertIsNone(self.check(sheet, plain, ("look", 8, 7, "right", "top", True)))
        sheet, plain = self.begun()
        self.check(sheet, plain, ("look", 3, 3, *PLAIN))
        self.check(sheet, plain, ("look", 8, 8, "right", "top", True))
        self.assertEqual(self.check(sheet, plain, ("look", 3, 3, "right", "top", True)), "Full")


class FullOfBoxes(Compared):
    def begun(self):
        deeds = [("merge", k // 3 * 2, k % 3 * 2, 2, 2) if k % 2 else ("merge", k // 3 * 2, k % 3 * 2, 1, 2)
                 for k in range(20)]
        return pair(16, 7, deeds)

    def test_one_more(self):
        sheet, plain = self.begun()
        self.assertEqual(len(sheet.merged()), 20)
        for deed in (("merge", 14, 0, 2, 7), ("merge", 0, 6, 2, 1), ("merge", 14, 0, 1, 2)):
            self.assertEqual(self.check(sheet, plain, deed), "Full")

    def test_other_refusals_come_first(self):
        sheet, plain = self.begun()
        for deed, due in ((("merge", 16, 0, 1, 2), "NoCell"), (("merge", 15, 0, 1, 1), "BadMany"),
                          (("merge", 15, 0, 0, 1), "BadMany"), (("merge", 15, 0, 2, 1), "NoCell"),
                          (("merge", 13, 0, 2, 1), "Full"), (("merge", 12, 0, 4, 1), "Overlap"),
                          (("merge", 0, 0, 16, 7), "Overlap")):
            self.assertEqual(self.check(sheet, plain, deed), due)

    def test_what_is_still_let(self):
        for deed in (("part", 0, 0), ("text", 0, 0, "x"), ("put", "row", 1, 3), ("cut", "row", 0, 3), ("fit", "row", 0)):
            sheet, plain = self.begun()
            self.assertIsNone(self.check(sheet, plain, deed))

    def test_room_again(self):
        for deed in (("part", 2, 3), ("cut", "row", 0, 2)):
            sheet, plain = self.begun()
            self.check(sheet, plain, deed)
            self.assertIsNone(self.check(sheet, plain, ("merge", 12, 6, 2, 1)))
        sheet, plain = self.begun()
        self.check(sheet, plain, ("part", 0, 0))
        self.check(sheet, plain, ("merge", 0, 0, 1, 2))
        self.assertEqual(self.check(sheet, plain, ("merge", 14, 0, 2, 2)), "Full")


if __name__ == "__main__":
    unittest.main()
