"""Rows and columns put in and cut out: points [3], [6] and [15]."""

import itertools
import unittest

from compared import Compared, pair
from gridscope.sheet import Sheet
from plain_sheet import AXES, refused, told
from plain_text import PLAIN

FAR = 10 ** 29
WRAPPED = ("right", "middle", True)
BEGUN = [
    ("text", 0, 0, "first"), ("text", 2, 4, "third"), ("text", 5, 1, "last"), ("look", 2, 4, *WRAPPED),
    ("look", 4, 5, *WRAPPED), ("look", 0, 1, "right", "top", False),
    ("merge", 1, 1, 3, 2), ("text", 1, 1, "box"), ("look", 1, 1, "middle", "middle", False),
    ("merge", 3, 3, 2, 2), ("text", 3, 3, "four"), ("merge", 0, 2, 1, 3), ("look", 0, 2, *WRAPPED),
    ("merge", 4, 0, 2, 1), ("text", 4, 0, "two"), ("look", 4, 0, "left", "bottom", False),
    ("size", "row", 1, 4), ("hide", "row", 3, 2), ("size", "row", 5, 2), ("size", "column", 0, 9),
    ("hide", "column", 2, 2), ("size", "column", 3, 3),
]


def turned(deed):
    """The same deed with rows for columns."""
    word, *rest = deed
    if word in ("text", "look", "part"):
        return (word, rest[1], rest[0], *rest[2:])
    if word == "merge":
        return (word, rest[1], rest[0], rest[3], rest[2])
    return (word, "column" if rest[0] == "row" else "row", *rest[1:])


class PutIn(Compared):
    def test_everywhere(self):
        for axis, number in itertools.product(AXES, range(-1, 9)):
            for many in (-1, 0, 1, 2, 5):
                self.check(*pair(6, 6, BEGUN), ("put", axis, number, many))

    def test_counts(self):
        for axis, number in itertools.product(AXES, (0, 2, 6)):
            for many in (-FAR, 999, 1000, 1001, FAR):
                due = "BadMany" if not 1 <= many <= 1000 else "Full" if axis == "column" and many > 994 else None
                sheet, plain = pair(6, 6, BEGUN)
                if due is None:
                    self.assertIsNone(sheet.do(("put", axis, number, many)))
                    self.assertEqual(sheet.rows().many, 6 + many)
                else:
                    self.assertEqual(self.check(sheet, plain, ("put", axis, number, many)), due)

    def test_far_numbers(self):
        for axis, number in itertools.product(AXES, (-FAR, -1, 7, FAR)):
            for many in (0, 1, 1001):
                self.assertEqual(self.check(*pair(6, 6, BEGUN), ("put", axis, number, many)), "NoIndex")

    def test_by_hand(self):
        sheet, _ = pair(6, 6, BEGUN)
        self.assertIsNone(sheet.do(("put", "row", 2, 3)))
        self.assertEqual(sheet.rows().many, 9)
        self.assertEqual(sheet.texts(), [(0, 0, "first"), (1, 1, "box"), (5, 4, "third"), (6, 3, "four"), (7, 0, "two"),
                                         (8, 1, "last")])
        self.assertEqual(sheet.merged(), [(0, 2, 1, 3), (1, 1, 6, 2), (6, 3, 2, 2), (7, 0, 2, 1)])
        self.assertEqual(sheet.rows().exceptions(), [(1, 4, False), (6, 1, True), (7, 1, True), (8, 2, False)])
        self.assertEqual((sheet.look(5, 4), sheet.look(2, 4), sheet.look(4, 2)), (WRAPPED, PLAIN, ("middle", "middle", False)))

    def test_at_the_edges_of_a_box(self):
        for number, due in ((0, (3, 1, 3, 2)), (1, (3, 1, 3, 2)), (2, (1, 1, 5, 2)), (3, (1, 1, 5, 2)), (4, (1, 1, 3, 2)),
                            (6, (1, 1, 3, 2))):
            sheet = Sheet(6, 6)
            sheet.do(("merge", 1, 1, 3, 2))
            sheet.do(("text", 1, 1, "box"))
            sheet.do(("put", "row", number, 2))
            self.assertEqual(sheet.merged(), [due])
            self.assertEqual(sheet.texts(), [(*due[:2], "box")])

    def test_of_one_column_or_row(self):
        for axis in AXES:
            sheet, plain = pair(1, 1, [("text", 0, 0, "x"), ("look", 0, 0, *WRAPPED), ("size", axis, 0, 5)])
            self.assertIsNone(self.check(sheet, plain, ("put", axis, 1, 2)))
            self.assertIsNone(self.check(sheet, plain, ("put", axis, 0, 2)))
            self.assertIsNone(self.check(sheet, plain, ("cut", axis, 3, 2)))
            self.assertIsNone(self.check(sheet, plain, ("cut", axis, 0, 2)))
            self.assertEqual(self.check(sheet, plain, ("cut", axis, 0, 1)), "BadMany")


class CutOut(Compared):
    def test_everywhere(self):
        for axis, number in itertools.product(AXES, range(-1, 8)):
            for many in range(-1, 8):
                self.check(*pair(6, 6, BEGUN), ("cut", axis, number, many))

    def test_far_numbers(self):
        for axis, number, many in itertools.product(AXES, (-FAR, 0, 3, FAR), (-FAR, 0, FAR)):
            due = "NoIndex" if number not in (0, 3) else "BadMany"
            self.assertEqual(self.check(*pair(6, 6, BEGUN), ("cut", axis, number, many)), due)

    def test_by_hand(self):
        sheet, _ = pair(6, 6, BEGUN)
        self.assertIsNone(sheet.do(("cut", "row", 1, 3)))
        self.assertEqual(sheet.rows().many, 3)
        self.assertEqual(sheet.merged(), [(0, 2, 1, 3), (1, 0, 2, 1), (1, 3, 1, 2)])
        self.assertEqual(sheet.texts(), [(0, 0, "first"), (1, 0, "two"), (1, 3, "four"), (2, 1, "last")])
        self.assertEqual(sheet.rows().exceptions(), [(1, 1, True), (2, 2, False)])
        self.assertEqual((sheet.look(1, 5), sheet.look(1, 1), sheet.look(0, 4)), (WRAPPED, PLAIN, WRAPPED))

    def test_the_first_row_of_a_box(self):
        look = ("middle", "bottom", True)
        for number, many, merged, cell in (
            (2, 1, [(2, 1, 2, 2)], (2, 1)), (2, 2, [(2, 1, 1, 2)], (2, 1)), (1, 2, [(1, 1, 2, 2)], (1, 1)),
            (0, 4, [(0, 1, 1, 2)], (0, 1)), (2, 3, [], None), (1, 5, [], None), (3, 1, [(2, 1, 2, 2)], (2, 1)),
            (4, 2, [(2, 1, 2, 2)], (2, 1)), (5, 1, [(2, 1, 3, 2)], (2, 1)),
        ):
            sheet = Sheet(7, 4)
            for deed in (("merge", 2, 1, 3, 2), ("text", 2, 1, "box"), ("look", 2, 1, *look)):
                sheet.do(deed)
            other = Sheet(4, 7)
            for deed in (("merge", 1, 2, 2, 3), ("text", 1, 2, "box"), ("look", 1, 2, *look)):
                other.do(deed)
            sheet.do(("cut", "row", number, many))
            other.do(("cut", "column", number, many))
            self.assertEqual(sheet.merged(), merged)
            self.assertEqual(other.merged(), [(box[1], box[0], box[3], box[2]) for box in merged])
            self.assertEqual(sheet.texts(), [] if cell is None else [(*cell, "box")])
            self.assertEqual(other.texts(), [] if cell is None else [(cell[1], cell[0], "box")])
            if cell is not None:
                self.assertEqual((sheet.look(*cell), other.look(cell[1], cell[0])), (look, look))

    def test_one_cell_left(self):
        for number, many, cell in ((2, 2, (2, 1)), (3, 2, (2, 1)), (0, 4, (0, 1)), (1, 3, (1, 1)), (3, 4, (2, 1))):
            sheet, plain = pair(7, 3, [("merge", 2, 1, 3, 1), ("text", 2, 1, "box"), ("look", 2, 1, *WRAPPED)])
            self.check(sheet, plain, ("cut", "row", number, many))
            self.assertEqual((sheet.merged(), sheet.texts()), ([], [(*cell, "box")]))
            self.assertEqual((sheet.box(*cell), sheet.look(*cell)), ((*cell, 1, 1), WRAPPED))
            self.assertEqual(self.check(sheet, plain, ("part", *cell)), "NotMerged")

    def test_boxes_rise_behind_it(self):
        sheet, plain = pair(5, 9, [("merge", 1, 6, 3, 2), ("merge", 2, 3, 2, 2), ("merge", 3, 0, 1, 2),
                                   ("text", 1, 6, "a"), ("text", 2, 3, "b"), ("text", 3, 0, "c")])
        self.check(sheet, plain, ("cut", "row", 1, 2))
        self.assertEqual(sheet.merged(), [(1, 0, 1, 2), (1, 3, 1, 2), (1, 6, 1, 2)])
        self.assertEqual(sheet.texts(), [(1, 0, "c"), (1, 3, "b"), (1, 6, "a")])

    def test_all_are_too_many(self):
        for axis in AXES:
            sheet, plain = pair(6, 6, BEGUN)
            self.assertEqual(self.check(sheet, plain, ("cut", axis, 0, 6)), "BadMany")
            self.assertEqual(self.check(sheet, plain, ("cut", axis, 1, 6)), "BadMany")
            self.assertIsNone(self.check(sheet, plain, ("cut", axis, 1, 5)))


class BothWays(Compared):
    def test_columns_like_rows(self):
        deeds = [turned(deed) for deed in BEGUN]
        for word, number, many in itertools.product(("put", "cut"), range(-1, 8), range(7)):
            sheet, _ = pair(6, 6, BEGUN)
            other, _ = pair(6, 6, deeds)
            self.assertEqual(refused(sheet.do, (word, "row", number, many)),
                             refused(other.do, (word, "column", number, many)))
            self.assertEqual(sheet.texts(), sorted((row, column, text) for column, row, text in other.texts()))
            self.assertEqual(sheet.merged(), sorted((b, a, d, c) for a, b, c, d in other.merged()))
            self.assertEqual(sheet.rows().exceptions(), [(at, own if hidden is False or own != 6 else 1, hidden)
                                                         for at, own, hidden in other.columns().exceptions()])

    def test_leads_back(self):
        for axis, number, many in itertools.product(AXES, range(7), (1, 2, 7, 100)):
            sheet, plain = pair(6, 6, BEGUN)
            kept = sheet.twin()
            sheet.do(("put", axis, number, many))
            self.assertNotEqual(sheet, kept)
            sheet.do(("cut", axis, number, many))
            self.assertEqual(sheet, kept)
            self.assertEqual(told(sheet), plain.told())

    def test_what_was_cut_does_not_come_back(self):
        sheet, plain = pair(6, 6, BEGUN)
        self.check(sheet, plain, ("cut", "row", 1, 2))
        self.check(sheet, plain, ("put", "row", 1, 2))
        self.assertEqual(sheet.texts(), [(0, 0, "first"), (3, 1, "box"), (3, 3, "four"), (4, 0, "two"), (5, 1, "last")])


class Great(unittest.TestCase):
    def begun(self, rows, columns):
        """A sheet with something at its first and last cells."""
        sheet = Sheet(rows, columns)
        for deed in (
            ("text", 0, 0, "a"), ("look", 0, 0, *WRAPPED), ("text", rows - 1, columns - 1, "z"),
            ("look", rows - 1, columns - 1, *WRAPPED), ("merge", 5, 5, rows - 10, columns - 10), ("text", 5, 5, "box"),
            ("size", "row", rows - 1, 9), ("size", "column", columns - 1, 9), ("hide", "row", rows - 3, 2),
            ("hide", "column", columns - 3, 2), ("merge", rows - 4, columns - 4, 2, 2),
        ):
            sheet.do(deed)
        return sheet

    def check_ends(self, sheet, rows, columns, box):
        self.assertEqual((sheet.rows().many, sheet.columns().many), (rows, columns))
        self.assertEqual(sheet.texts(), [(0, 0, "a"), (5, 5, "box"), (rows - 1, columns - 1, "z")])
        self.assertEqual(sheet.look(rows - 1, columns - 1), WRAPPED)
        self.assertEqual(sheet.merged(), [box, (rows - 4, columns - 4, 2, 2)])
        self.assertEqual(sheet.rows().exceptions(), [(rows - 3, 1, True), (rows - 2, 1, True), (rows - 1, 9, False)])
        self.assertEqual(sheet.columns().exceptions(),
                         [(columns - 3, 6, True), (columns - 2, 6, True), (columns - 1, 9, False)])

    def test_rows(self):
        sheet = self.begun(999000, 30)
        kept = sheet.twin()
        for number in (6, 500000, 998994):
            self.assertIsNone(sheet.do(("put", "row", number, 1000)))
            self.check_ends(sheet, 1000000, 30, (5, 5, 999990, 20))
            self.assertEqual(refused(sheet.do, ("put", "row", number, 1)), ("Full", None))
            self.assertIsNone(sheet.do(("cut", "row", number, 1000)))
            self.assertEqual(sheet, kept)
        self.assertEqual(refused(sheet.do, ("put", "row", 0, 1001)), ("BadMany", None))
        self.assertIsNone(sheet.do(("put", "row", 0, 999)))
        self.assertEqual(refused(sheet.do, ("put", "row", 0, 2)), ("Full", None))
        self.assertEqual(sheet.rows().many, 999999)
        self.assertIsNone(sheet.do(("put", "row", 999999, 1)))
        self.assertEqual(sheet.text(999998, 29), "z")

    def test_columns(self):
        sheet = self.begun(1000000, 990)
        kept = sheet.twin()
        for number in (6, 500, 984):
            self.assertIsNone(sheet.do(("put", "column", number, 10)))
            self.check_ends(sheet, 1000000, 1000, (5, 5, 999990, 990))
            self.assertEqual(refused(sheet.do, ("put", "column", number, 1)), ("Full", None))
            self.assertIsNone(sheet.do(("cut", "column", number, 10)))
            self.assertEqual(sheet, kept)
        self.assertEqual(refused(sheet.do, ("put", "column", 0, 11)), ("Full", None))
        self.assertEqual(refused(sheet.do, ("put", "column", 991, 11)), ("NoIndex", None))
        self.assertEqual(refused(sheet.do, ("put", "column", 990, 1001)), ("BadMany", None))
        self.assertEqual(sheet, kept)

    def test_full_comes_last(self):
        sheet = Sheet(1000000, 1000)
        for axis, count in (("row", 1000000), ("column", 1000)):
            for number, many, due in ((0, 1, "Full"), (count, 1000, "Full"), (count + 1, 1, "NoIndex"), (-1, 1, "NoIndex"),
                                      (0, 0, "BadMany"), (0, 1001, "BadMany"), (count, -1, "BadMany")):
                self.assertEqual(refused(sheet.do, ("put", axis, number, many)), (due, None))
        self.assertEqual(sheet, Sheet(1000000, 1000))

    def test_cut_to_the_ends(self):
        sheet = self.begun(1000000, 1000)
        self.assertIsNone(sheet.do(("cut", "row", 0, 999999)))
        self.assertEqual((sheet.rows().many, sheet.texts(), sheet.merged()), (1, [(0, 999, "z")], []))
        self.assertIsNone(sheet.do(("cut", "column", 0, 999)))
        self.assertEqual((sheet.texts(), sheet.look(0, 0)), ([(0, 0, "z")], WRAPPED))
        self.assertEqual(refused(sheet.do, ("cut", "column", 0, 1)), ("BadMany", None))

    def test_cut_through_a_great_box(self):
        sheet = self.begun(1000000, 1000)
        sheet.do(("cut", "row", 4, 999990))
        self.assertEqual(sheet.merged(), [(4, 5, 1, 990), (6, 996, 2, 2)])
        self.assertEqual(sheet.text(4, 700), "box")
        sheet.do(("cut", "column", 5, 989))
        self.assertEqual(sheet.merged(), [(6, 7, 2, 2)])
        self.assertEqual((sheet.text(4, 5), sheet.box(4, 5)), ("box", (4, 5, 1, 1)))


if __name__ == "__main__":
    unittest.main()
