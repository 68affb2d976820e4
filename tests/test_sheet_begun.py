"""Sheets begun, asked, compared and twinned: points [1], [5] and [18], and the interface of Sheet."""

import itertools
import unittest

from compared import pair
from gridscope import sheet as module
from gridscope.errors import BadDeed, BadMany, BadSize, NoCell
from gridscope.sheet import Sheet
from gridscope.sizes import Sizes
from plain_sheet import drawn, refused, told

FAR = 10 ** 29
BEGUN = [
    ("text", 0, 0, "first"), ("text", 3, 2, "one two"), ("look", 3, 2, "right", "bottom", True),
    ("merge", 1, 1, 2, 2), ("text", 1, 1, "box"), ("look", 1, 1, "middle", "middle", False),
    ("size", "row", 2, 4), ("hide", "row", 4, 1), ("size", "column", 1, 9), ("hide", "column", 3, 1),
]
OTHER_DEEDS = [
    ("text", 0, 0, "firsT"), ("text", 0, 0, ""), ("text", 4, 3, "more"), ("look", 0, 0, "left", "top", True),
    ("look", 0, 0, "right", "top", False), ("look", 3, 2, "left", "top", False), ("look", 3, 2, "right", "top", True),
    ("merge", 0, 2, 1, 2), ("part", 2, 2), ("size", "row", 2, 5), ("size", "row", 0, 2), ("common", "row", 2),
    ("show", "row", 4, 1), ("hide", "row", 0, 1), ("size", "column", 1, 8), ("size", "column", 0, 7),
    ("common", "column", 1), ("show", "column", 3, 1), ("hide", "column", 2, 1), ("put", "row", 5, 1),
    ("put", "column", 4, 1), ("put", "row", 0, 1), ("cut", "row", 4, 1), ("cut", "column", 3, 1),
    ("fit", "row", 3), ("fit", "column", 0),
]


class AlwaysEqual:
    def __eq__(self, other):
        return True


class Begun(unittest.TestCase):
    def check(self, sheet, rows, columns, high, wide):
        self.assertEqual((sheet.rows().many, sheet.columns().many), (rows, columns))
        self.assertEqual((sheet.rows().common, sheet.columns().common), (high, wide))
        self.assertEqual((sheet.rows().exceptions(), sheet.columns().exceptions()), ([], []))
        self.assertEqual((sheet.texts(), sheet.merged(), len(sheet)), ([], [], 0))
        self.assertEqual(sheet, Sheet(rows, columns, high=high, wide=wide))

    def test_left_out(self):
        self.check(Sheet(), 100, 26, 1, 6)
        self.check(Sheet(7), 7, 26, 1, 6)
        self.check(Sheet(7, 8), 7, 8, 1, 6)
        self.check(Sheet(high=3), 100, 26, 3, 6)
        self.check(Sheet(wide=9), 100, 26, 1, 9)
        self.check(Sheet(columns=9), 100, 9, 1, 6)
        self.check(Sheet(7, wide=9), 7, 26, 1, 9)

    def test_names_in_any_order(self):
        given = {"rows": 7, "columns": 8, "high": 3, "wide": 9}
        for names in itertools.permutations(given):
            self.check(Sheet(**{name: given[name] for name in names}), 7, 8, 3, 9)
        self.check(Sheet(7, 8, wide=9, high=3), 7, 8, 3, 9)

    def test_behind_the_star_by_name_alone(self):
        with self.assertRaises(TypeError):
            Sheet(7, 8, 3)

    def test_within(self):
        for rows, columns in ((1, 1), (1, 1000), (1000000, 1), (1000000, 1000), (999999, 999)):
            self.check(Sheet(rows, columns), rows, columns, 1, 6)
        for high, wide in ((1, 1), (1, 60), (60, 1), (60, 60)):
            self.check(Sheet(3, 3, high=high, wide=wide), 3, 3, high, wide)

    def test_counts_beyond(self):
        for rows in (0, -1, 1000001, 2000000, FAR, -FAR):
            for columns in (1, 26, 1000, 0, 1001, -1, FAR):
                with self.assertRaises(BadMany):
                    Sheet(rows, columns)
            with self.assertRaises(BadMany):
                Sheet(rows)
        for columns in (0, -1, 1001, 1000000, FAR, -FAR):
            for rows in (1, 100, 1000000):
                with self.assertRaises(BadMany):
                    Sheet(rows, columns)
            with self.assertRaises(BadMany):
                Sheet(columns=columns)

    def test_sizes_beyond(self):
        for wrong in (0, -1, 61, 100, FAR, -FAR):
            for good in (1, 6, 60):
                with self.assertRaises(BadSize):
                    Sheet(3, 3, high=wrong, wide=good)
                with self.assertRaises(BadSize):
                    Sheet(3, 3, high=good, wide=wrong)
            with self.assertRaises(BadSize):
                Sheet(high=wrong)
            with self.assertRaises(BadSize):
                Sheet(wide=wrong)

    def test_both_wrong(self):
        for rows, columns in ((0, 5), (5, 0), (0, 0), (1000001, 5), (5, 1001)):
            for high, wide in ((0, 6), (1, 0), (61, 61), (-1, -1)):
                with self.assertRaises(BadMany):
                    Sheet(rows, columns, high=high, wide=wide)

    def test_names_of_the_class(self):
        self.assertEqual(module.Sheet.__module__, "gridscope.sheet")
        for name in ("__eq__", "__len__", "rows", "columns", "box", "text", "look", "texts", "merged", "do", "sign",
                     "twin"):
            self.assertIn(name, vars(Sheet))


class Asked(unittest.TestCase):
    def test_cells_that_are_none(self):
        sheet, _ = pair(5, 4, BEGUN)
        kept = told(sheet)
        for row, column in ((-1, 0), (0, -1), (-1, -1), (5, 0), (0, 4), (5, 4), (-5, 0), (0, -4), (FAR, 0), (0, FAR),
                            (-FAR, 0), (0, -FAR), (4, 5), (6, 1)):
            for ask in (sheet.box, sheet.text, sheet.look):
                with self.assertRaises(NoCell):
                    ask(row, column)
        self.assertEqual(told(sheet), kept)

    def test_cells_at_the_ends_of_a_great_sheet(self):
        sheet = Sheet(1000000, 1000)
        self.assertEqual(sheet.box(999999, 999), (999999, 999, 1, 1))
        self.assertEqual(sheet.text(999999, 999), "")
        self.assertEqual(sheet.look(999999, 999), ("left", "top", False))
        for row, column in ((1000000, 999), (999999, 1000)):
            for ask in (sheet.box, sheet.text, sheet.look):
                with self.assertRaises(NoCell):
                    ask(row, column)

    def test_all_cells(self):
        sheet, plain = pair(5, 4, BEGUN)
        for _ in range(3):
            self.assertEqual(told(sheet), plain.told())
            self.assertEqual(drawn(sheet), plain.drawn())

    def test_by_hand(self):
        sheet, _ = pair(5, 4, BEGUN)
        self.assertEqual(sheet.texts(), [(0, 0, "first"), (1, 1, "box"), (3, 2, "one two")])
        self.assertEqual(sheet.merged(), [(1, 1, 2, 2)])
        self.assertEqual(len(sheet), 3)
        for row, column in ((1, 1), (1, 2), (2, 1), (2, 2)):
            self.assertEqual(sheet.box(row, column), (1, 1, 2, 2))
            self.assertEqual(sheet.text(row, column), "box")
            self.assertEqual(sheet.look(row, column), ("middle", "middle", False))
        self.assertEqual(sheet.box(3, 1), (3, 1, 1, 1))
        self.assertEqual(sheet.text(3, 1), "")
        self.assertEqual(sheet.look(3, 1), ("left", "top", False))
        self.assertEqual(sheet.look(3, 2), ("right", "bottom", True))

    def test_rising(self):
        cells = [(3, 1), (0, 9), (10, 0), (2, 0), (0, 2), (2, 10), (9, 9), (0, 0)]
        sheet = Sheet(20, 20)
        for row, column in cells:
            sheet.do(("text", row, column, "x"))
        self.assertEqual(sheet.texts(), [(row, column, "x") for row, column in sorted(cells)])
        for row, column in cells:
            sheet.do(("merge", row, column, 1, 2))
        self.assertEqual(sheet.merged(), [(row, column, 1, 2) for row, column in sorted(cells)])

    def test_kinds(self):
        sheet, _ = pair(5, 4, BEGUN)
        self.assertEqual((type(sheet.texts()), type(sheet.merged())), (list, list))
        for each in [*sheet.texts(), *sheet.merged(), sheet.box(0, 0), sheet.box(2, 2), sheet.look(0, 0),
                     sheet.look(3, 2)]:
            self.assertIs(type(each), tuple)
        self.assertEqual((type(sheet.rows()), type(sheet.columns())), (Sizes, Sizes))
        self.assertIs(sheet.look(3, 2)[2], True)
        self.assertIs(sheet.look(0, 0)[2], False)

    def test_told_lists_are_new(self):
        sheet, plain = pair(5, 4, BEGUN)
        texts, boxes = sheet.texts(), sheet.merged()
        texts.clear()
        boxes.append((0, 0, 1, 2))
        self.assertEqual(told(sheet), plain.told())
        texts, boxes = sheet.texts(), sheet.merged()
        sheet.do(("text", 4, 0, "more"))
        sheet.do(("part", 1, 1))
        self.assertEqual((len(texts), boxes), (3, [(1, 1, 2, 2)]))

    def test_told_sizes_are_on_their_own(self):
        sheet, plain = pair(5, 4, BEGUN)
        rows, columns = sheet.rows(), sheet.columns()
        for sizes in (rows, columns):
            sizes.give(0, 33)
            sizes.hide(1)
            sizes.put(0, 5)
        self.assertEqual(told(sheet), plain.told())
        rows, columns = sheet.rows(), sheet.columns()
        sheet.do(("size", "row", 0, 8))
        sheet.do(("cut", "column", 0, 1))
        self.assertEqual(rows.exceptions(), [(2, 4, False), (4, 1, True)])
        self.assertEqual((columns.many, columns.exceptions()), (4, [(1, 9, False), (3, 6, True)]))

    def test_by_names(self):
        sheet, _ = pair(5, 4, BEGUN)
        self.assertEqual(sheet.box(column=2, row=1), (1, 1, 2, 2))
        self.assertEqual(sheet.text(column=2, row=3), "one two")
        self.assertEqual(sheet.look(column=2, row=3), ("right", "bottom", True))
        self.assertEqual(sheet.sign(x=1, y=0), "i")
        self.assertIsNone(sheet.do(deed=("text", 0, 0, "")))

    def test_a_deed_of_another_kind(self):
        sheet, plain = pair(5, 4, BEGUN)
        for deed in (("hold", 1, 1), ("screen", 5, 5), ("caret", 0, 0), ("all", ())):
            with self.assertRaises(BadDeed):
                sheet.do(deed)
        self.assertEqual(told(sheet), plain.told())


class Equal(unittest.TestCase):
    def check_equal(self, one, other):
        for left, right in ((one, other), (other, one)):
            self.assertIs(left == right, True)
            self.assertIs(left != right, False)

    def check_other(self, one, other):
        for left, right in ((one, other), (other, one)):
            self.assertIs(left == right, False)
            self.assertIs(left != right, True)

    def test_the_same(self):
        self.check_equal(Sheet(), Sheet())
        self.check_equal(Sheet(), Sheet(100, 26, high=1, wide=6))
        self.check_equal(pair(5, 4, BEGUN)[0], pair(5, 4, BEGUN)[0])
        sheet = Sheet()
        self.check_equal(sheet, sheet)

    def test_whatever_the_order(self):
        sheet, _ = pair(5, 4, BEGUN)
        for shift in range(1, len(BEGUN)):
            cells = BEGUN[3:6] + BEGUN[:3] if shift % 2 else BEGUN[:6]
            sizes = BEGUN[6:][shift % 4:] + BEGUN[6:][:shift % 4]
            self.check_equal(sheet, pair(5, 4, sizes + cells)[0])

    def test_as_if_not_done(self):
        for more in (
            [("text", 4, 0, "more"), ("text", 4, 0, "")], [("text", 0, 0, "x"), ("text", 0, 0, "first")],
            [("look", 0, 0, "right", "top", True), ("look", 0, 0, "left", "top", False)],
            [("merge", 3, 0, 1, 2), ("part", 3, 1)], [("size", "row", 0, 9), ("size", "row", 0, 1)],
            [("size", "column", 0, 9), ("common", "column", 0)], [("hide", "row", 0, 2), ("show", "row", 0, 2)],
            [("size", "row", 0, 1)], [("put", "row", 2, 3), ("cut", "row", 2, 3)], [("text", 4, 0, "")],
        ):
            self.check_equal(pair(5, 4, BEGUN)[0], pair(5, 4, BEGUN + more)[0])

    def test_one_thing_is_other(self):
        sheet, plain = pair(5, 4, BEGUN)
        for deed in OTHER_DEEDS:
            other, _ = pair(5, 4, BEGUN + [deed])
            self.check_other(sheet, other)
        self.assertEqual(told(sheet), plain.told())

    def test_counts_and_common_sizes(self):
        for other in (Sheet(6, 4), Sheet(5, 5), Sheet(5, 4, high=2), Sheet(5, 4, wide=5), Sheet(4, 5)):
            self.check_other(Sheet(5, 4), other)
        one, other = Sheet(5, 4), Sheet(5, 4, high=2)
        for number in range(5):
            other.do(("size", "row", number, 1))
        self.check_other(one, other)

    def test_another_kind(self):
        sheet = Sheet(5, 4)
        for other in (0, 1, None, True, False, "", "Sheet", b"", (), [], {}, set(), object(), Sheet, Sizes(5),
                      sheet.rows(), sheet.texts(), (5, 4)):
            self.check_other(sheet, other)
        self.assertIs(sheet == AlwaysEqual(), False)


class Twins(unittest.TestCase):
    def test_alike(self):
        sheet, plain = pair(5, 4, BEGUN)
        twin = sheet.twin()
        self.assertIs(type(twin), Sheet)
        self.assertIsNot(twin, sheet)
        self.assertEqual(twin, sheet)
        self.assertEqual(told(twin), plain.told())
        self.assertEqual(drawn(twin), plain.drawn())

    def test_on_their_own(self):
        for deed in OTHER_DEEDS:
            for changed in (0, 1):
                sheet, plain = pair(5, 4, BEGUN)
                both = (sheet, sheet.twin())
                kept = told(both[1 - changed])
                self.assertIsNone(both[changed].do(deed))
                self.assertEqual(told(both[1 - changed]), kept)
                self.assertNotEqual(both[0], both[1])
                plain.do(deed)
                self.assertEqual(told(both[changed]), plain.told())

    def test_a_deed_to_both(self):
        for deed in OTHER_DEEDS:
            sheet, _ = pair(5, 4, BEGUN)
            twin = sheet.twin()
            sheet.do(deed)
            twin.do(deed)
            self.assertEqual(sheet, twin)

    def test_of_great_sheets(self):
        sheet = Sheet(1000000, 1000)
        sheet.do(("text", 999999, 999, "end"))
        self.assertEqual(sheet.twin(), sheet)
        self.assertEqual(refused(sheet.twin().do, ("put", "row", 0, 1)), ("Full", None))

    def test_twin_of_a_twin(self):
        sheet, plain = pair(5, 4, BEGUN)
        twin = sheet.twin().twin()
        twin.do(("text", 0, 0, ""))
        self.assertEqual(told(sheet), plain.told())


if __name__ == "__main__":
    unittest.main()
