"""Sizes of a sheet's rows and columns, set, hidden, shown and fitted: points [1], [2] and [15]."""

import itertools
import random
import unittest

from compared import Compared, pair
from gridscope.sheet import Sheet
from plain_sheet import AXES, refused, told
from plain_text import LOOKS, some_text

FAR = 10 ** 29
NO_AXES = ("", "rows", "Row", "ROW", "row ", " row", "columns", "col", "Column", "down", "0", "r", "rowcolumn")
AXIS_DEEDS = (("size", 2), ("common",), ("hide", 1), ("show", 1), ("put", 1), ("cut", 1), ("fit",))
BEGUN = [
    ("size", "row", 1, 4), ("hide", "row", 3, 2), ("size", "row", 3, 7), ("size", "column", 0, 9),
    ("hide", "column", 2, 1), ("size", "column", 2, 3), ("text", 1, 1, "text"),
]


class Axes(Compared):
    def test_no_axis_goes_first(self):
        for (word, *rest), axis in itertools.product(AXIS_DEEDS, NO_AXES):
            for number in (0, 3, -1, 6, FAR, -FAR):
                for many in (*rest, 0, -1, 61, 1001, FAR)[:6 if rest else 0] or (None,):
                    deed = (word, axis, number) if many is None else (word, axis, number, many)
                    sheet, plain = pair(6, 5, BEGUN)
                    self.assertEqual(self.check(sheet, plain, deed), "BadAxis")

    def test_no_axis_in_a_full_sheet(self):
        sheet = Sheet(1000000, 1000)
        for axis in NO_AXES:
            self.assertEqual(refused(sheet.do, ("put", axis, 0, 1)), ("BadAxis", None))


class Sizes(Compared):
    def test_set(self):
        for axis, number in itertools.product(AXES, (-FAR, -2, -1, 0, 1, 2, 3, 4, 5, 6, 7, FAR)):
            for size in (-FAR, -1, 0, 1, 3, 6, 7, 59, 60, 61, FAR):
                self.check(*pair(6, 5, BEGUN), ("size", axis, number, size))

    def test_common_again(self):
        for axis, number in itertools.product(AXES, (-FAR, -2, -1, 0, 1, 2, 3, 4, 5, 6, 7, FAR)):
            self.check(*pair(6, 5, BEGUN), ("common", axis, number))

    def test_hidden_and_shown(self):
        for word, axis in itertools.product(("hide", "show"), AXES):
            for number in (-FAR, -1, 0, 1, 2, 3, 4, 5, 6, FAR):
                for many in (-FAR, -1, 0, 1, 2, 3, 4, 5, 6, 7, FAR):
                    self.check(*pair(6, 5, BEGUN), (word, axis, number, many))

    def test_by_hand(self):
        sheet = Sheet(6, 5)
        for deed in BEGUN:
            self.assertIsNone(sheet.do(deed))
        self.assertEqual(sheet.rows().exceptions(), [(1, 4, False), (3, 7, True), (4, 1, True)])
        self.assertEqual(sheet.columns().exceptions(), [(0, 9, False), (2, 3, True)])
        self.assertEqual((sheet.rows().total(), sheet.columns().total()), (1 + 4 + 1 + 1, 9 + 6 + 6 + 6))
        for deed in (("show", "row", 0, 6), ("common", "row", 1), ("hide", "column", 0, 5), ("common", "column", 2)):
            self.assertIsNone(sheet.do(deed))
        self.assertEqual(sheet.rows().exceptions(), [(3, 7, False)])
        self.assertEqual(sheet.columns().exceptions(), [(0, 9, True), *((k, 6, True) for k in range(1, 5))])
        self.assertEqual(sheet.columns().total(), 0)

    def test_order_of_refusals(self):
        sheet, plain = pair(6, 5, BEGUN)
        for deed, due in (
            (("size", "row", 6, 0), "NoIndex"), (("size", "column", -1, 61), "NoIndex"), (("size", "row", 0, 0), "BadSize"),
            (("hide", "row", 6, 0), "NoIndex"), (("hide", "column", 5, 1), "NoIndex"), (("hide", "row", -1, 3), "NoIndex"),
            (("hide", "row", 5, 2), "BadMany"), (("hide", "row", 0, 0), "BadMany"), (("show", "row", 6, 0), "NoIndex"),
            (("show", "row", 5, 2), "BadMany"), (("show", "column", 0, 6), "BadMany"), (("common", "row", 6), "NoIndex"),
        ):
            self.assertEqual(self.check(sheet, plain, deed), due)


class SixtyThings(Compared):
    """At most sixty rows and sixty columns of a sheet are set or hidden."""

    def begun(self, axis, many=60):
        """Of so many the first half set, the others hidden."""
        rows, columns = (70, 2) if axis == "row" else (2, 70)
        half = many // 2
        deeds = [("size", axis, number, 9) for number in range(half)]
        return pair(rows, columns, deeds + [("hide", axis, half, many - half)])

    def test_so_many_at_once(self):
        for axis, many in itertools.product(AXES, (1, 2, 59, 60, 61, 70, 71)):
            rows, columns = (70, 2) if axis == "row" else (2, 70)
            sheet, plain = pair(rows, columns)
            due = None if many <= 60 else "Full" if many <= 70 else "BadMany"
            self.assertEqual(self.check(sheet, plain, ("hide", axis, 0, many)), due)

    def test_so_many_at_once_beside_others(self):
        for axis, many in itertools.product(AXES, (49, 50, 51, 59, 60, 61)):
            for number in (0, 5, 10):
                sheet, plain = self.begun(axis, 10)
                if number + many <= 70:
                    self.check(sheet, plain, ("hide", axis, number, many))

    def test_a_refused_stretch_hides_nothing(self):
        for axis in AXES:
            sheet, plain = self.begun(axis, 59)
            kept = told(sheet)
            self.assertEqual(self.check(sheet, plain, ("hide", axis, 58, 3)), "Full")
            self.assertEqual(told(sheet), kept)
            self.assertIsNone(self.check(sheet, plain, ("hide", axis, 58, 2)))

    def test_one_more(self):
        for axis in AXES:
            sheet, plain = self.begun(axis)
            self.assertEqual(self.check(sheet, plain, ("size", axis, 60, 7)), "Full")
            self.assertEqual(self.check(sheet, plain, ("hide", axis, 69, 1)), "Full")
            self.assertEqual(self.check(sheet, plain, ("hide", axis, 0, 61)), "Full")

    def test_other_refusals_come_first(self):
        for axis in AXES:
            sheet, plain = self.begun(axis)
            for deed, due in ((("size", axis, 70, 7), "NoIndex"), (("size", axis, 60, 61), "BadSize"),
                              (("hide", axis, 70, 1), "NoIndex"), (("hide", axis, 69, 2), "BadMany"),
                              (("hide", axis, 69, 0), "BadMany"), (("fit", axis, 70), "NoIndex")):
                self.assertEqual(self.check(sheet, plain, deed), due)

    def test_what_is_still_let(self):
        for axis in AXES:
            common = 1 if axis == "row" else 6
            for deed in (("size", axis, 0, 8), ("size", axis, 40, 8), ("size", axis, 65, common), ("hide", axis, 0, 60),
                         ("hide", axis, 45, 3), ("show", axis, 0, 70), ("show", axis, 60, 10), ("show", axis, 59, 1),
                         ("common", axis, 0), ("common", axis, 40), ("common", axis, 65), ("put", axis, 0, 9),
                         ("cut", axis, 3, 4)):
                sheet, plain = self.begun(axis)
                self.assertIsNone(self.check(sheet, plain, deed))

    def test_the_other_axis_has_its_own(self):
        sheet, plain = pair(62, 62, [("hide", "row", 0, 60)])
        self.assertIsNone(self.check(sheet, plain, ("hide", "column", 1, 60)))
        self.assertEqual(self.check(sheet, plain, ("hide", "column", 0, 1)), "Full")

    def test_fitting(self):
        for axis in AXES:
            sheet, plain = self.begun(axis)
            cell = (lambda number: (number, 0)) if axis == "row" else (lambda number: (0, number))
            alike = "x" if axis == "row" else "x" * 6
            for number, text in ((65, "a b c d e f g"), (66, alike), (0, "a b c"), (40, "a b c d e f g")):
                sheet.do(("text", *cell(number), text))
                plain.do(("text", *cell(number), text))
                sheet.do(("look", *cell(number), "left", "top", axis == "row"))
                plain.do(("look", *cell(number), "left", "top", axis == "row"))
            self.assertEqual(self.check(sheet, plain, ("fit", axis, 65)), "Full")
            for number in (66, 67, 0, 40, 1):
                self.assertIsNone(self.check(sheet, plain, ("fit", axis, number)))
            self.assertIsNone(self.check(sheet, plain, ("fit", axis, 65)))

    def test_great_stretches(self):
        sheet = Sheet(1000000, 1000)
        self.assertIsNone(sheet.do(("hide", "row", 999940, 60)))
        self.assertEqual(refused(sheet.do, ("hide", "row", 0, 1000000)), ("Full", None))
        self.assertEqual(refused(sheet.do, ("hide", "row", 999940, 61)), ("BadMany", None))
        self.assertEqual(refused(sheet.do, ("show", "row", 1, 1000000)), ("BadMany", None))
        self.assertEqual(len(sheet.rows().exceptions()), 60)
        self.assertIsNone(sheet.do(("show", "row", 1, 999998)))
        self.assertEqual(sheet.rows().exceptions(), [(999999, 1, True)])
        self.assertIsNone(sheet.do(("show", "row", 0, 1000000)))
        self.assertEqual(sheet, Sheet(1000000, 1000))


class Fitted(Compared):
    def test_columns_by_hand(self):
        for texts, looks, due in (
            ([], [], []), (["ab"], [], [(0, 2, False)]), (["ab", "abcd", "a"], [], [(0, 4, False)]),
            ([" a b "], [], [(0, 5, False)]), ([" a bcd "], [0], [(0, 3, False)]), (["   "], [], [(0, 3, False)]),
            (["   "], [0], []), (["abcdef"], [], []), (["abcdef ghi"], [0], []), (["x" * 40], [], [(0, 40, False)]),
            (["x" * 20 + " " + "y" * 19], [0], [(0, 20, False)]), (["ab cd", "abc"], [0], [(0, 3, False)]),
            (["   ", "a"], [0], [(0, 1, False)]),
        ):
            sheet = Sheet(5, 3)
            for row, text in enumerate(texts):
                sheet.do(("text", row, 0, text))
            for row in looks:
                sheet.do(("look", row, 0, "left", "top", True))
            self.assertIsNone(sheet.do(("fit", "column", 0)))
            self.assertEqual(sheet.columns().exceptions(), due, texts)

    def test_rows_by_hand(self):
        for texts, looks, due in (
            ([], [], []), (["abcdefghij"], [], []), (["ab cd ef gh ij"], [0], [(0, 3, False)]), (["    "], [0], []),
            (["x" * 40], [0], [(0, 7, False)]), (["ab cd ef gh", "x" * 40], [0], [(0, 2, False)]),
            (["ab cd ef gh", "x" * 40], [0, 1], [(0, 7, False)]), (["", "ab cd ef gh"], [1], [(0, 2, False)]),
        ):
            sheet = Sheet(3, 5)
            for column, text in enumerate(texts):
                sheet.do(("text", 0, column, text))
            for column in looks:
                sheet.do(("look", 0, column, "left", "top", True))
            self.assertIsNone(sheet.do(("fit", "row", 0)))
            self.assertEqual(sheet.rows().exceptions(), due, texts)

    def test_a_line_or_none_beside_another_common_size(self):
        for text, wrap, due in (("ab", False, [(0, 1, False)]), ("", False, []), ("  ", False, [(0, 1, False)]),
                                ("  ", True, []), ("abc", True, [(0, 1, False)])):
            sheet = Sheet(3, 5, high=3)
            sheet.do(("size", "row", 0, 9))
            sheet.do(("text", 0, 0, text))
            sheet.do(("look", 0, 0, "left", "top", wrap))
            sheet.do(("fit", "row", 0))
            self.assertEqual(sheet.rows().exceptions(), due)

    def test_common_again(self):
        for axis, number in itertools.product(AXES, (1, 2)):
            sheet, plain = pair(4, 4, [("size", axis, 1, 30), ("size", axis, 2, 30), ("hide", axis, 2, 1)])
            self.assertIsNone(self.check(sheet, plain, ("fit", axis, number)))
            sizes = sheet.rows() if axis == "row" else sheet.columns()
            self.assertEqual((sizes.own(number), sizes.hidden(number)), (sizes.common, number == 2))

    def test_hidden_ones(self):
        begun = [("text", 1, 1, "abc de fghi jk"), ("look", 1, 1, "left", "top", True), ("text", 2, 1, "longer text"),
                 ("text", 1, 2, "a b c d e f g h i"), ("look", 1, 2, "left", "top", True), ("size", "column", 2, 1)]
        for hidden in ([], [("hide", "row", 1, 1)], [("hide", "row", 2, 1)], [("hide", "column", 1, 1)],
                       [("hide", "column", 2, 1)], [("hide", "column", 1, 2)], [("hide", "row", 0, 4)]):
            for deed in (("fit", "row", 1), ("fit", "row", 2), ("fit", "column", 1), ("fit", "column", 2)):
                sheet, plain = pair(4, 4, begun + hidden)
                self.assertIsNone(self.check(sheet, plain, deed))

    def test_hidden_ones_by_hand(self):
        sheet = Sheet(4, 4)
        for deed in (("text", 1, 1, "hidden row"), ("hide", "row", 1, 1), ("hide", "column", 1, 1), ("fit", "column", 1)):
            sheet.do(deed)
        self.assertEqual(sheet.columns().exceptions(), [(1, 10, True)])
        for deed in (("text", 1, 2, "a b c d"), ("look", 1, 2, "left", "top", True), ("size", "column", 2, 1),
                     ("fit", "row", 1)):
            sheet.do(deed)
        self.assertEqual(sheet.rows().exceptions(), [(1, 4, True)])
        sheet.do(("hide", "column", 2, 1))
        sheet.do(("fit", "row", 1))
        self.assertEqual(sheet.rows().exceptions(), [(1, 1, True)])

    def test_merged_boxes_are_not_asked(self):
        for box in ((1, 1, 1, 2), (1, 1, 2, 1), (1, 1, 2, 2)):
            sheet, plain = pair(4, 4, [("text", 1, 1, "a long text in it"), ("look", 1, 1, "left", "top", True),
                                       ("merge", *box), ("text", 1, 3, "ab"), ("text", 3, 1, "ab")])
            for deed in (("fit", "row", 1), ("fit", "column", 1), ("fit", "row", 2), ("fit", "column", 2)):
                self.assertIsNone(self.check(sheet, plain, deed))
            self.assertEqual(sheet.columns().own(1), 2)
            self.check(sheet, plain, ("part", 1, 1))
            self.check(sheet, plain, ("fit", "column", 1))
            self.assertEqual(sheet.columns().own(1), 4)

    def test_numbers_beyond(self):
        for axis, number in itertools.product(AXES, (-FAR, -2, -1, 4, 5, FAR)):
            sheet, plain = pair(4, 4, [("text", 3, 3, "at the end"), ("text", 0, 0, "first")])
            self.assertEqual(self.check(sheet, plain, ("fit", axis, number)), "NoIndex")

    def test_by_chance(self):
        for seed in range(120):
            chance = random.Random(seed)
            sheet, plain = pair(6, 6, (), chance.randint(1, 4), chance.randint(1, 9))
            for _ in range(14):
                cell = (chance.randrange(6), chance.randrange(6))
                for deed in (("text", *cell, some_text(chance)), ("look", *cell, *chance.choice(LOOKS))):
                    self.assertEqual(refused(sheet.do, deed), plain.do(deed))
            for _ in range(3):
                for deed in (("merge", chance.randrange(6), chance.randrange(6), chance.randint(1, 2), chance.randint(1, 2)),
                             ("size", "column", chance.randrange(6), chance.randint(1, 12)),
                             ("hide", chance.choice(AXES), chance.randrange(6), 1)):
                    self.assertEqual(refused(sheet.do, deed), plain.do(deed))
            for axis, number in itertools.product(AXES, range(6)):
                self.check(sheet, plain, ("fit", axis, number))


if __name__ == "__main__":
    unittest.main()
